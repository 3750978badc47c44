/- Walks of slices.SortStableFunc and what it calls. The walk of symMerge. The walk of slices.SortStableFunc. Walks of lists that are taken apart. A range over a function: steps within a round, and slices.Backward. slices.Backward over data. Items, linked one behind the other. Which lists are sound, and what the calls answer. Walks of the items of lists. Walks of lists that are joined, and of new lists. Walks of Of, Append, Tail and Reverse. Walks of SortBy, where the firsts are characters. -/
import Derived.Test.YtofbejppkldhnaaGreatDoorPlistso10f
import Derived.RangeFuncNested
import Derived.RangeFuncLeaves
import Derived.LoopNIn
import Derived.Test.YtofbejppkldhnaaGreatDoorProg
import Derived.Test.YtofbejppkldhnaaGreatDoorArith
namespace Go.Proofs.YtofbejppkldhnaaGreatDoor.G
open Go.RowKit
set_option linter.unusedVariables false
set_option linter.unusedSimpArgs false
set_option maxRecDepth 100000
theorem LiT_isS_30 : IsS Tryz.prog 30 11 := ⟨⟨_, Tryz.underlying30⟩, by kernel_rfl⟩
theorem swR_any {w0 w : World} {g9 c9 n9 : Nat} {zs : List Dt} {T : List Ck} (hl : n9 ≤ 1000000000) (hzl : zs.length = n9) {la lb n : Nat} {fv : Value} (ha : la + n ≤ n9) (hb : lb + n ≤ n9) (hM0 : Mg w0 w (.row 30 11 (.slice (some ⟨g9, 0, none⟩) n9 c9) n9 (cellsOf zs) :: T)) : Calls Tryz.prog 128 #[.slice (some ⟨g9, 0, none⟩) n9 c9, .int .i64 ((la : Nat) : Int), .int .i64 ((lb : Nat) : Int), .int .i64 ((n : Nat) : Int), fv] w fun e w' => e = .returned (.tuple #[]) ∧ Mg w0 w' (.row 30 11 (.slice (some ⟨g9, 0, none⟩) n9 c9) n9 (cellsOf (swR zs la lb n)) :: T) := by
 have hM : Mg w0 w (.row 30 11 (.slice (some ⟨g9, 0, none⟩) n9 c9) n9 (cellsOf zs) :: T) := hM0
 refine walk_of (l := [(0, .slice (some ⟨g9, 0, none⟩) n9 c9), (1, .int .i64 (((la : Nat) : Int))), (2, .int .i64 (((lb : Nat) : Int))), (3, .int .i64 (((n : Nat) : Int))), (4, fv)]) Tryz.func128 rfl Tryz.ntmps128 rfl rfl ?_
 intro Q hret hnorm hP a hA
 refine wp_seq_k (fun K1 hK1 => ?_)
 refine wp_region_lit ?_
 refine seq_do hA rfl rfl rfl (does_assign rfl) ?_
 intro a hA
 refine seq_end ?_
 refine hK1 _ _ ?_
 refine wp_block ?_
 refine wp_loop_n (fun m_ a w1 => ∃ (i : Nat) (xs : List Dt), m_ = 1 + (n - i) ∧ (i ≤ n ∧ xs.length = n9 ∧ swR xs (la + i) (lb + i) (n - i) = swR zs la lb n) ∧ Sl a 38 [(0, .slice (some ⟨g9, 0, none⟩) n9 c9), (1, .int .i64 (((la : Nat) : Int))), (2, .int .i64 (((lb : Nat) : Int))), (3, .int .i64 (((n : Nat) : Int))), (4, fv), (10, .int .i64 (((i : Nat) : Int)))] ∧ Mg w0 w1 (.row 30 11 (.slice (some ⟨g9, 0, none⟩) n9 c9) n9 (cellsOf xs) :: T)) _ ⟨0, zs, rfl, ⟨Nat.zero_le _, hzl, rfl⟩, hA.keep _ ⟨rfl, rfl, rfl, rfl, rfl, rfl, trivial⟩, hM⟩ ?_
 clear hM hA
 rintro m_ a w2 ⟨i, xs, rfl, hinv4, hA, hM⟩ K3 hK3
 obtain ⟨hi0, hxl, hin⟩ := hinv4
 refine wp_seq_k (fun K5 hK5 => ?_)
 refine wp_seq_k (fun K6 hK6 => ?_)
 refine wp_region_lit ?_
 refine seq_do hA rfl rfl rfl (does_move rfl) ?_
 intro a hA
 refine seq_do hA rfl rfl rfl (does_move rfl) ?_
 intro a hA
 rcases Bool.eq_false_or_eq_true (decide (((i : Nat) : Int) < ((n : Nat) : Int))) with hb7 | hb7
 · have hb7' := of_decide_eq_true hb7
   refine seq_do (v := .bool true) hA rfl rfl rfl (does_bin rfl rfl (fun w => (bin_lss w).trans (by rw [hb7]))) ?_
   intro a hA
   refine seq_end ?_
   refine hK6 _ _ ?_
   refine wp_cond_true (hA.ev rfl) ?_
   refine wp_skip ?_
   refine hK5 _ _ ?_
   refine wp_seq_k (fun K8 hK8 => ?_)
   refine wp_block ?_
   refine wp_draw (S := fun w1 => Mg w0 w1 ([])) (by kernel_rfl) ?_
   replace hM := hM.drew
   refine any_tk hA 0 rfl rfl rfl rfl hP (hM.sub (.cons _ (List.nil_sublist _))) (fun w1 hM => does_move rfl) ?_
   intro a hA
   refine any_tk hA 1 rfl rfl rfl rfl hP (hM.sub (.cons _ (List.nil_sublist _))) (fun w1 hM => does_move rfl) ?_
   intro a hA
   refine any_tk hA 2 rfl rfl rfl rfl hP (hM.sub (.cons _ (List.nil_sublist _))) (fun w1 hM => does_move rfl) ?_
   intro a hA
   refine any_tk (v := .int .i64 (((la + i : Nat) : Int))) hA 3 rfl rfl rfl rfl hP (hM.sub (.cons _ (List.nil_sublist _))) (fun w1 hM => does_bin rfl rfl (ar_add ((in_i64 (by omega) (by omega)).trans (by omega)))) ?_
   intro a hA
   refine any_tk hA 4 rfl rfl rfl rfl hP (hM.sub (.cons _ (List.nil_sublist _))) (fun w1 hM => does_move rfl) ?_
   intro a hA
   refine any_tk hA 5 rfl rfl rfl rfl hP (hM.sub (.cons _ (List.nil_sublist _))) (fun w1 hM => does_move rfl) ?_
   intro a hA
   refine any_tk hA 6 rfl rfl rfl rfl hP (hM.sub (.cons _ (List.nil_sublist _))) (fun w1 hM => does_move rfl) ?_
   intro a hA
   refine any_tk (v := .int .i64 (((lb + i : Nat) : Int))) hA 7 rfl rfl rfl rfl hP (hM.sub (.cons _ (List.nil_sublist _))) (fun w1 hM => does_bin rfl rfl (ar_add ((in_i64 (by omega) (by omega)).trans (by omega)))) ?_
   intro a hA
   refine any_tk hA 8 rfl rfl rfl rfl hP (hM.sub (.cons _ (List.nil_sublist _))) (fun w1 hM => does_move rfl) ?_
   intro a hA
   refine any_tk hA 9 rfl rfl rfl rfl hP (hM.sub (.cons _ (List.nil_sublist _))) (fun w1 hM => does_move rfl) ?_
   intro a hA
   refine any_tk hA 10 rfl rfl rfl rfl hP (hM.sub (.cons _ (List.nil_sublist _))) (fun w1 hM => does_move rfl) ?_
   intro a hA
   refine any_tk (v := .int .i64 (((lb + i : Nat) : Int))) hA 11 rfl rfl rfl rfl hP (hM.sub (.cons _ (List.nil_sublist _))) (fun w1 hM => does_bin rfl rfl (ar_add ((in_i64 (by omega) (by omega)).trans (by omega)))) ?_
   intro a hA
   refine any_tk (v := .pointer (some ⟨g9, (lb + i) * 11, none⟩)) hA 12 rfl rfl rfl rfl hP (hM.sub (.cons _ (List.nil_sublist _))) (fun w1 hM => does_indexE (k := (lb + i)) Tryz.underlying28 (by kernel_rfl) rfl rfl rfl (by omega)) ?_
   intro a hA
   refine any_tk hA 14 rfl rfl rfl rfl hP (hM.sub (.cons _ (List.nil_sublist _))) (fun w1 hM => does_move rfl) ?_
   intro a hA
   refine any_tk hA 15 rfl rfl rfl rfl hP (hM.sub (.cons _ (List.nil_sublist _))) (fun w1 hM => does_move rfl) ?_
   intro a hA
   refine any_tk hA 16 rfl rfl rfl rfl hP (hM.sub (.cons _ (List.nil_sublist _))) (fun w1 hM => does_move rfl) ?_
   intro a hA
   refine any_tk (v := .int .i64 (((la + i : Nat) : Int))) hA 17 rfl rfl rfl rfl hP (hM.sub (.cons _ (List.nil_sublist _))) (fun w1 hM => does_bin rfl rfl (ar_add ((in_i64 (by omega) (by omega)).trans (by omega)))) ?_
   intro a hA
   refine any_tk (v := .pointer (some ⟨g9, (la + i) * 11, none⟩)) hA 18 rfl rfl rfl rfl hP (hM.sub (.cons _ (List.nil_sublist _))) (fun w1 hM => does_indexE (k := (la + i)) Tryz.underlying28 (by kernel_rfl) rfl rfl rfl (by omega)) ?_
   intro a hA
   refine any_many (rs := [13, 19]) (by kernel_rfl) (by simp) ⟨?_, ?_, trivial⟩
   · obtain ⟨e9, he9⟩ : ∃ z, xs[(lb + i)]? = some z := ⟨_, List.getElem?_eq_getElem (by omega)⟩
     refine op_do hA 13 rfl rfl rfl rfl (m_loadES (o := (lb + i) * 11) (cs := e9.d.cells e9.ts.length) hM 0 rfl LiT_isS_30 (cellsOf_at he9) rfl rfl) (hM.sub (.cons _ (List.nil_sublist _))) ?_
     intro a hA
     obtain ⟨e10, he10⟩ : ∃ z, xs[(la + i)]? = some z := ⟨_, List.getElem?_eq_getElem (by omega)⟩
     refine any_one (by kernel_rfl) (op_do hA 19 rfl rfl rfl rfl (m_loadES (o := (la + i) * 11) (cs := e10.d.cells e10.ts.length) hM 0 rfl LiT_isS_30 (cellsOf_at he10) rfl rfl) (hM.sub (.cons _ (List.nil_sublist _))) ?_)
     intro a hA
     refine any_tk (v := .pointer (some ⟨g9, (la + i) * 11, none⟩)) hA 20 rfl rfl rfl rfl hP (hM.sub (.cons _ (List.nil_sublist _))) (fun w1 hM => does_indexE (k := (la + i)) Tryz.underlying28 (by kernel_rfl) rfl rfl rfl (by omega)) ?_
     intro a hA
     refine any_one (by kernel_rfl) (g_storeRD (us := cellsOf (xs.set (la + i) e9)) (L' := (.row 30 11 (.slice (some ⟨g9, 0, none⟩) n9 c9) n9 (cellsOf (xs.set (la + i) e9)) :: T)) hA hM 21 rfl rfl rfl (m_storeE (cs := e9.d.cells e9.ts.length) rfl rfl rfl (by kernel_rfl) hM 0 rfl (by show _ + 11 ≤ _; omega) (cells_all e9)) 0 rfl (over_row (by omega) rfl) rfl ?_)
     intro w11 hM
     refine ⟨(hM.sub (.cons _ (List.nil_sublist _))), ?_⟩
     refine any_tk (v := .pointer (some ⟨g9, (lb + i) * 11, none⟩)) hA 22 rfl rfl rfl rfl hP (hM.sub (.cons _ (List.nil_sublist _))) (fun w1 hM => does_indexE (k := (lb + i)) Tryz.underlying28 (by kernel_rfl) rfl rfl rfl (by omega)) ?_
     intro a hA
     refine any_one (by kernel_rfl) (g_storeRD (us := cellsOf ((xs.set (la + i) e9).set (lb + i) e10)) (L' := (.row 30 11 (.slice (some ⟨g9, 0, none⟩) n9 c9) n9 (cellsOf ((xs.set (la + i) e9).set (lb + i) e10)) :: T)) hA hM 23 rfl rfl rfl (m_storeE (cs := e10.d.cells e10.ts.length) rfl rfl rfl (by kernel_rfl) hM 0 rfl (by show _ + 11 ≤ _; omega) (cells_all e10)) 0 rfl (over_row (by rw [List.length_set]; omega) rfl) rfl ?_)
     intro w12 hM
     rw [swp_eq he10 he9] at hM
     refine ⟨(hM.sub (.cons _ (List.nil_sublist _))), ?_⟩
     refine any_end (by kernel_rfl) ?_
     refine hK8 _ _ ?_
     refine wp_region_lit ?_
     refine seq_do hA rfl rfl rfl (does_move rfl) ?_
     intro a hA
     refine seq_do (v := .int .i64 (((i + 1 : Nat) : Int))) hA rfl rfl rfl (does_bin rfl rfl (ar_add ((in_i64 (by omega) (by omega)).trans (by omega)))) ?_
     intro a hA
     refine seq_do hA rfl rfl rfl (does_assign rfl) ?_
     intro a hA
     refine seq_end ?_
     refine hK3 _ _ _ (by omega) ⟨i + 1, (swp xs (la + i) (lb + i)), rfl, ⟨by omega, by rw [swp_len]; exact hxl, by rw [← hin, show n - i = n - (i + 1) + 1 by omega]; rfl⟩, hA.keep _ ⟨rfl, rfl, rfl, rfl, rfl, rfl, trivial⟩, hM⟩
   · obtain ⟨e13, he13⟩ : ∃ z, xs[(la + i)]? = some z := ⟨_, List.getElem?_eq_getElem (by omega)⟩
     refine op_do hA 19 rfl rfl rfl rfl (m_loadES (o := (la + i) * 11) (cs := e13.d.cells e13.ts.length) hM 0 rfl LiT_isS_30 (cellsOf_at he13) rfl rfl) (hM.sub (.cons _ (List.nil_sublist _))) ?_
     intro a hA
     obtain ⟨e14, he14⟩ : ∃ z, xs[(lb + i)]? = some z := ⟨_, List.getElem?_eq_getElem (by omega)⟩
     refine any_one (by kernel_rfl) (op_do hA 13 rfl rfl rfl rfl (m_loadES (o := (lb + i) * 11) (cs := e14.d.cells e14.ts.length) hM 0 rfl LiT_isS_30 (cellsOf_at he14) rfl rfl) (hM.sub (.cons _ (List.nil_sublist _))) ?_)
     intro a hA
     refine any_tk (v := .pointer (some ⟨g9, (la + i) * 11, none⟩)) hA 20 rfl rfl rfl rfl hP (hM.sub (.cons _ (List.nil_sublist _))) (fun w1 hM => does_indexE (k := (la + i)) Tryz.underlying28 (by kernel_rfl) rfl rfl rfl (by omega)) ?_
     intro a hA
     refine any_one (by kernel_rfl) (g_storeRD (us := cellsOf (xs.set (la + i) e14)) (L' := (.row 30 11 (.slice (some ⟨g9, 0, none⟩) n9 c9) n9 (cellsOf (xs.set (la + i) e14)) :: T)) hA hM 21 rfl rfl rfl (m_storeE (cs := e14.d.cells e14.ts.length) rfl rfl rfl (by kernel_rfl) hM 0 rfl (by show _ + 11 ≤ _; omega) (cells_all e14)) 0 rfl (over_row (by omega) rfl) rfl ?_)
     intro w15 hM
     refine ⟨(hM.sub (.cons _ (List.nil_sublist _))), ?_⟩
     refine any_tk (v := .pointer (some ⟨g9, (lb + i) * 11, none⟩)) hA 22 rfl rfl rfl rfl hP (hM.sub (.cons _ (List.nil_sublist _))) (fun w1 hM => does_indexE (k := (lb + i)) Tryz.underlying28 (by kernel_rfl) rfl rfl rfl (by omega)) ?_
     intro a hA
     refine any_one (by kernel_rfl) (g_storeRD (us := cellsOf ((xs.set (la + i) e14).set (lb + i) e13)) (L' := (.row 30 11 (.slice (some ⟨g9, 0, none⟩) n9 c9) n9 (cellsOf ((xs.set (la + i) e14).set (lb + i) e13)) :: T)) hA hM 23 rfl rfl rfl (m_storeE (cs := e13.d.cells e13.ts.length) rfl rfl rfl (by kernel_rfl) hM 0 rfl (by show _ + 11 ≤ _; omega) (cells_all e13)) 0 rfl (over_row (by rw [List.length_set]; omega) rfl) rfl ?_)
     intro w16 hM
     rw [swp_eq he13 he14] at hM
     refine ⟨(hM.sub (.cons _ (List.nil_sublist _))), ?_⟩
     refine any_end (by kernel_rfl) ?_
     refine hK8 _ _ ?_
     refine wp_region_lit ?_
     refine seq_do hA rfl rfl rfl (does_move rfl) ?_
     intro a hA
     refine seq_do (v := .int .i64 (((i + 1 : Nat) : Int))) hA rfl rfl rfl (does_bin rfl rfl (ar_add ((in_i64 (by omega) (by omega)).trans (by omega)))) ?_
     intro a hA
     refine seq_do hA rfl rfl rfl (does_assign rfl) ?_
     intro a hA
     refine seq_end ?_
     refine hK3 _ _ _ (by omega) ⟨i + 1, (swp xs (la + i) (lb + i)), rfl, ⟨by omega, by rw [swp_len]; exact hxl, by rw [← hin, show n - i = n - (i + 1) + 1 by omega]; rfl⟩, hA.keep _ ⟨rfl, rfl, rfl, rfl, rfl, rfl, trivial⟩, hM⟩
 · have hb7' := of_decide_eq_false hb7
   refine seq_do (v := .bool false) hA rfl rfl rfl (does_bin rfl rfl (fun w => (bin_lss w).trans (by rw [hb7]))) ?_
   intro a hA
   refine seq_end ?_
   refine hK6 _ _ ?_
   refine wp_cond_false (hA.ev rfl) ?_
   refine wp_exit ?_
   refine hnorm _ _ ?_
   refine ends (v := .tuple #[]) hA rfl .nil rfl ?_
   rw [show n - i = 0 by omega] at hin
   replace hin : xs = swR zs la lb n := hin
   rw [hin] at hM
   exact ⟨rfl, hM⟩
theorem rot_any {w0 w : World} {g9 c9 n9 : Nat} {zs : List Dt} {T : List Ck} (hl : n9 ≤ 1000000000) (hzl : zs.length = n9) {la lm lb : Nat} {fv : Value} (ha : la < lm) (hm : lm < lb) (hb : lb ≤ n9) (hM0 : Mg w0 w (.row 30 11 (.slice (some ⟨g9, 0, none⟩) n9 c9) n9 (cellsOf zs) :: T)) : Calls Tryz.prog 108 #[.slice (some ⟨g9, 0, none⟩) n9 c9, .int .i64 ((la : Nat) : Int), .int .i64 ((lm : Nat) : Int), .int .i64 ((lb : Nat) : Int), fv] w fun e w' => e = .returned (.tuple #[]) ∧ Mg w0 w' (.row 30 11 (.slice (some ⟨g9, 0, none⟩) n9 c9) n9 (cellsOf (rot zs la lm lb)) :: T) := by
 have hM : Mg w0 w (.row 30 11 (.slice (some ⟨g9, 0, none⟩) n9 c9) n9 (cellsOf zs) :: T) := hM0
 refine walk_of (l := [(0, .slice (some ⟨g9, 0, none⟩) n9 c9), (1, .int .i64 (((la : Nat) : Int))), (2, .int .i64 (((lm : Nat) : Int))), (3, .int .i64 (((lb : Nat) : Int))), (4, fv)]) Tryz.func108 rfl Tryz.ntmps108 rfl rfl ?_
 intro Q hret hnorm hP a hA
 refine wp_seq_k (fun K1 hK1 => ?_)
 refine wp_region_lit ?_
 refine seq_do hA rfl rfl rfl (does_move rfl) ?_
 intro a hA
 refine seq_do hA rfl rfl rfl (does_move rfl) ?_
 intro a hA
 refine seq_do (v := .int .i64 (((lm - la : Nat) : Int))) hA rfl rfl rfl (does_bin rfl rfl (ar_sub ((in_i64 (by omega) (by omega)).trans (by omega)))) ?_
 intro a hA
 refine seq_do hA rfl rfl rfl (does_assign rfl) ?_
 intro a hA
 refine seq_end ?_
 refine hK1 _ _ ?_
 refine wp_seq_k (fun K2 hK2 => ?_)
 refine wp_region_lit ?_
 refine seq_do hA rfl rfl rfl (does_move rfl) ?_
 intro a hA
 refine seq_do hA rfl rfl rfl (does_move rfl) ?_
 intro a hA
 refine seq_do (v := .int .i64 (((lb - lm : Nat) : Int))) hA rfl rfl rfl (does_bin rfl rfl (ar_sub ((in_i64 (by omega) (by omega)).trans (by omega)))) ?_
 intro a hA
 refine seq_do hA rfl rfl rfl (does_assign rfl) ?_
 intro a hA
 refine seq_end ?_
 refine hK2 _ _ ?_
 refine wp_seq_k (fun K3 hK3 => ?_)
 refine wp_block ?_
 refine wp_loop_n (fun m_ a w1 => ∃ (i : Nat) (j : Nat) (xs : List Dt), m_ = 1 + (i + j) ∧ (0 < i ∧ 0 < j ∧ la + i ≤ lm ∧ lm + j ≤ lb ∧ xs.length = n9 ∧ rot xs (lm - i) lm (lm + j) = rot zs la lm lb) ∧ Sl a 58 [(0, .slice (some ⟨g9, 0, none⟩) n9 c9), (1, .int .i64 (((la : Nat) : Int))), (2, .int .i64 (((lm : Nat) : Int))), (3, .int .i64 (((lb : Nat) : Int))), (4, fv), (10, .int .i64 (((i : Nat) : Int))), (11, .int .i64 (((j : Nat) : Int))), (12, .int .i64 (((lm : Nat) : Int))), (13, .int .i64 (((la : Nat) : Int))), (14, .int .i64 (((lm - la : Nat) : Int))), (15, .int .i64 (((lb : Nat) : Int))), (16, .int .i64 (((lm : Nat) : Int))), (17, .int .i64 (((lb - lm : Nat) : Int)))] ∧ Mg w0 w1 (.row 30 11 (.slice (some ⟨g9, 0, none⟩) n9 c9) n9 (cellsOf xs) :: T)) _ ⟨lm - la, lb - lm, zs, rfl, ⟨by omega, by omega, by omega, by omega, hzl, by rw [show lm - (lm - la) = la by omega, show lm + (lb - lm) = lb by omega]⟩, hA.keep _ ⟨rfl, rfl, rfl, rfl, rfl, rfl, rfl, rfl, rfl, rfl, rfl, rfl, rfl, trivial⟩, hM⟩ ?_
 clear hM hA
 rintro m_ a w4 ⟨i, j, xs, rfl, hinv6, hA, hM⟩ K5 hK5
 obtain ⟨hi0, hj0, hi1, hj1, hxl, hin⟩ := hinv6
 refine wp_seq_k (fun K7 hK7 => ?_)
 refine wp_seq_k (fun K8 hK8 => ?_)
 refine wp_region_lit ?_
 refine seq_do hA rfl rfl rfl (does_move rfl) ?_
 intro a hA
 refine seq_do hA rfl rfl rfl (does_move rfl) ?_
 intro a hA
 rcases Bool.eq_false_or_eq_true ((((i : Nat) : Int) != ((j : Nat) : Int))) with hb9 | hb9
 · have hb9' := bne_iff_ne.1 hb9
   refine seq_do (v := .bool true) hA rfl rfl rfl (does_bin rfl rfl (fun w => (bin_neq w).trans (by rw [hb9]))) ?_
   intro a hA
   refine seq_end ?_
   refine hK8 _ _ ?_
   refine wp_cond_true (hA.ev rfl) ?_
   refine wp_skip ?_
   refine hK7 _ _ ?_
   refine wp_block ?_
   refine wp_seq_k (fun K10 hK10 => ?_)
   refine wp_region_lit ?_
   refine seq_do hA rfl rfl rfl (does_move rfl) ?_
   intro a hA
   refine seq_do hA rfl rfl rfl (does_move rfl) ?_
   intro a hA
   rcases Bool.eq_false_or_eq_true (decide (((j : Nat) : Int) < ((i : Nat) : Int))) with hb11 | hb11
   · have hb11' := of_decide_eq_true hb11
     refine seq_do (v := .bool true) hA rfl rfl rfl (does_bin rfl rfl (fun w => (bin_gtr w).trans (by rw [hb11]))) ?_
     intro a hA
     refine seq_end ?_
     refine hK10 _ _ ?_
     refine wp_cond_true (hA.ev rfl) ?_
     refine wp_seq_k (fun K12 hK12 => ?_)
     refine wp_region_lit ?_
     refine seq_do hA rfl rfl rfl (does_move rfl) ?_
     intro a hA
     refine seq_do hA rfl rfl rfl (does_move rfl) ?_
     intro a hA
     refine seq_do hA rfl rfl rfl (does_move rfl) ?_
     intro a hA
     refine seq_do (v := .int .i64 (((lm - i : Nat) : Int))) hA rfl rfl rfl (does_bin rfl rfl (ar_sub ((in_i64 (by omega) (by omega)).trans (by omega)))) ?_
     intro a hA
     refine seq_do hA rfl rfl rfl (does_move rfl) ?_
     intro a hA
     refine seq_do hA rfl rfl rfl (does_move rfl) ?_
     intro a hA
     refine seq_do hA rfl rfl rfl (does_move rfl) ?_
     intro a hA
     refine seq_call hA rfl rfl rfl (enters_func rfl rfl (fun w => by kernel_rfl)) (swR_any (zs := xs) (la := lm - i) (lb := lm) (n := j) hl (by omega) (by omega) (by omega) hM) ?_
     rintro _ w14 ⟨rfl, hM13⟩
     replace hM : Mg w0 w14 (.row 30 11 (.slice (some ⟨g9, 0, none⟩) n9 c9) n9 (cellsOf (swR xs (lm - i) lm j)) :: T) := hM13
     refine ⟨_, rfl, ?_⟩
     intro a hA
     refine seq_end ?_
     refine hK12 _ _ ?_
     refine wp_region_lit ?_
     refine seq_do hA rfl rfl rfl (does_move rfl) ?_
     intro a hA
     refine seq_do hA rfl rfl rfl (does_move rfl) ?_
     intro a hA
     refine seq_do (v := .int .i64 (((i - j : Nat) : Int))) hA rfl rfl rfl (does_bin rfl rfl (ar_sub ((in_i64 (by omega) (by omega)).trans (by omega)))) ?_
     intro a hA
     refine seq_do hA rfl rfl rfl (does_assign rfl) ?_
     intro a hA
     refine seq_end ?_
     refine hK5 _ _ _ (by omega) ⟨i - j, j, (swR xs (lm - i) lm j), rfl, ⟨by omega, by omega, by omega, by omega, by rw [swR_len]; exact hxl, by rw [← hin]; exact rot_gt (by omega) (by omega) (by omega)⟩, hA.keep _ ⟨rfl, rfl, rfl, rfl, rfl, rfl, rfl, rfl, rfl, rfl, rfl, rfl, rfl, trivial⟩, hM⟩
   · have hb11' := of_decide_eq_false hb11
     refine seq_do (v := .bool false) hA rfl rfl rfl (does_bin rfl rfl (fun w => (bin_gtr w).trans (by rw [hb11]))) ?_
     intro a hA
     refine seq_end ?_
     refine hK10 _ _ ?_
     refine wp_cond_false (hA.ev rfl) ?_
     refine wp_seq_k (fun K15 hK15 => ?_)
     refine wp_region_lit ?_
     refine seq_do hA rfl rfl rfl (does_move rfl) ?_
     intro a hA
     refine seq_do hA rfl rfl rfl (does_move rfl) ?_
     intro a hA
     refine seq_do hA rfl rfl rfl (does_move rfl) ?_
     intro a hA
     refine seq_do (v := .int .i64 (((lm - i : Nat) : Int))) hA rfl rfl rfl (does_bin rfl rfl (ar_sub ((in_i64 (by omega) (by omega)).trans (by omega)))) ?_
     intro a hA
     refine seq_do hA rfl rfl rfl (does_move rfl) ?_
     intro a hA
     refine seq_do hA rfl rfl rfl (does_move rfl) ?_
     intro a hA
     refine seq_do (v := .int .i64 (((lm + j : Nat) : Int))) hA rfl rfl rfl (does_bin rfl rfl (ar_add ((in_i64 (by omega) (by omega)).trans (by omega)))) ?_
     intro a hA
     refine seq_do hA rfl rfl rfl (does_move rfl) ?_
     intro a hA
     refine seq_do (v := .int .i64 ((((lm + j) - i : Nat) : Int))) hA rfl rfl rfl (does_bin rfl rfl (ar_sub ((in_i64 (by omega) (by omega)).trans (by omega)))) ?_
     intro a hA
     refine seq_do hA rfl rfl rfl (does_move rfl) ?_
     intro a hA
     refine seq_do hA rfl rfl rfl (does_move rfl) ?_
     intro a hA
     refine seq_call hA rfl rfl rfl (enters_func rfl rfl (fun w => by kernel_rfl)) (swR_any (zs := xs) (la := lm - i) (lb := (lm + j) - i) (n := i) hl (by omega) (by omega) (by omega) hM) ?_
     rintro _ w17 ⟨rfl, hM16⟩
     replace hM : Mg w0 w17 (.row 30 11 (.slice (some ⟨g9, 0, none⟩) n9 c9) n9 (cellsOf (swR xs (lm - i) ((lm + j) - i) i)) :: T) := hM16
     refine ⟨_, rfl, ?_⟩
     intro a hA
     refine seq_end ?_
     refine hK15 _ _ ?_
     refine wp_region_lit ?_
     refine seq_do hA rfl rfl rfl (does_move rfl) ?_
     intro a hA
     refine seq_do hA rfl rfl rfl (does_move rfl) ?_
     intro a hA
     refine seq_do (v := .int .i64 (((j - i : Nat) : Int))) hA rfl rfl rfl (does_bin rfl rfl (ar_sub ((in_i64 (by omega) (by omega)).trans (by omega)))) ?_
     intro a hA
     refine seq_do hA rfl rfl rfl (does_assign rfl) ?_
     intro a hA
     refine seq_end ?_
     refine hK5 _ _ _ (by omega) ⟨i, j - i, (swR xs (lm - i) ((lm + j) - i) i), rfl, ⟨by omega, by omega, by omega, by omega, by rw [swR_len]; exact hxl, by rw [← hin]; exact rot_lt (by omega) (by omega) (by omega)⟩, hA.keep _ ⟨rfl, rfl, rfl, rfl, rfl, rfl, rfl, rfl, rfl, rfl, rfl, rfl, rfl, trivial⟩, hM⟩
 · have hb9' := bne_eq_false_iff_eq.1 hb9
   refine seq_do (v := .bool false) hA rfl rfl rfl (does_bin rfl rfl (fun w => (bin_neq w).trans (by rw [hb9]))) ?_
   intro a hA
   refine seq_end ?_
   refine hK8 _ _ ?_
   refine wp_cond_false (hA.ev rfl) ?_
   refine wp_exit ?_
   refine hK3 _ _ ?_
   refine wp_region_lit ?_
   refine seq_do hA rfl rfl rfl (does_move rfl) ?_
   intro a hA
   refine seq_do hA rfl rfl rfl (does_move rfl) ?_
   intro a hA
   refine seq_do hA rfl rfl rfl (does_move rfl) ?_
   intro a hA
   refine seq_do (v := .int .i64 (((lm - i : Nat) : Int))) hA rfl rfl rfl (does_bin rfl rfl (ar_sub ((in_i64 (by omega) (by omega)).trans (by omega)))) ?_
   intro a hA
   refine seq_do hA rfl rfl rfl (does_move rfl) ?_
   intro a hA
   refine seq_do hA rfl rfl rfl (does_move rfl) ?_
   intro a hA
   refine seq_do hA rfl rfl rfl (does_move rfl) ?_
   intro a hA
   refine seq_call hA rfl rfl rfl (enters_func rfl rfl (fun w => by kernel_rfl)) (swR_any (zs := xs) (la := lm - i) (lb := lm) (n := i) hl (by omega) (by omega) (by omega) hM) ?_
   rintro _ w19 ⟨rfl, hM18⟩
   replace hM : Mg w0 w19 (.row 30 11 (.slice (some ⟨g9, 0, none⟩) n9 c9) n9 (cellsOf (swR xs (lm - i) lm i)) :: T) := hM18
   refine ⟨_, rfl, ?_⟩
   intro a hA
   refine seq_end ?_
   refine hnorm _ _ ?_
   refine ends (v := .tuple #[]) hA rfl .nil rfl ?_
   obtain rfl : i = j := by omega
   rw [rot_end (by omega) (by omega), hin] at hM
   exact ⟨rfl, hM⟩
theorem ins_any {w0 w : World} {g9 c9 n9 : Nat} {zs : List Dt} {T : List Ck} (hl : n9 ≤ 1000000000) (hzl : zs.length = n9) {f : FuncId} {cs : List Value} {c : Dt → Dt → Int} {ts : List Dt} (hF : Cmps Tryz.prog f cs w0 T ts c) (hsub : ∀ t ∈ zs, t ∈ ts) {la lb : Nat} (hab : la ≤ n9) (hb : lb ≤ n9) (hM0 : Mg w0 w (.row 30 11 (.slice (some ⟨g9, 0, none⟩) n9 c9) n9 (cellsOf zs) :: T)) : Calls Tryz.prog 96 #[.slice (some ⟨g9, 0, none⟩) n9 c9, .int .i64 ((la : Nat) : Int), .int .i64 ((lb : Nat) : Int), .func (.func f) #[] cs.toArray] w fun e w' => e = .returned (.tuple #[]) ∧ Mg w0 w' (.row 30 11 (.slice (some ⟨g9, 0, none⟩) n9 c9) n9 (cellsOf (insO (ltC c) la (lb - (la + 1)) (la + 1) zs)) :: T) := by
 have hM : Mg w0 w (.row 30 11 (.slice (some ⟨g9, 0, none⟩) n9 c9) n9 (cellsOf zs) :: T) := hM0
 refine walk_of (l := [(0, .slice (some ⟨g9, 0, none⟩) n9 c9), (1, .int .i64 (((la : Nat) : Int))), (2, .int .i64 (((lb : Nat) : Int))), (3, .func (.func f) #[] cs.toArray)]) Tryz.func96 rfl Tryz.ntmps96 rfl rfl ?_
 intro Q hret hnorm hP a hA
 refine wp_seq_k (fun K1 hK1 => ?_)
 refine wp_region_lit ?_
 refine seq_do hA rfl rfl rfl (does_move rfl) ?_
 intro a hA
 refine seq_do (v := .int .i64 (((la + 1 : Nat) : Int))) hA rfl rfl rfl (does_bin rfl rfl (ar_add ((in_i64 (by omega) (by omega)).trans (by omega)))) ?_
 intro a hA
 refine seq_do hA rfl rfl rfl (does_assign rfl) ?_
 intro a hA
 refine seq_end ?_
 refine hK1 _ _ ?_
 refine wp_block ?_
 refine wp_loop_n (fun m_ a w1 => ∃ (i : Nat) (zs1 : List Dt), m_ = 1 + (lb - i) ∧ (la < i ∧ i ≤ max lb (la + 1) ∧ zs1.length = n9 ∧ (∀ t ∈ zs1, t ∈ ts) ∧ insO (ltC c) la (lb - i) i zs1 = insO (ltC c) la (lb - (la + 1)) (la + 1) zs) ∧ Sl a 53 [(0, .slice (some ⟨g9, 0, none⟩) n9 c9), (1, .int .i64 (((la : Nat) : Int))), (2, .int .i64 (((lb : Nat) : Int))), (3, .func (.func f) #[] cs.toArray), (8, .int .i64 (((i : Nat) : Int))), (10, .int .i64 (((la : Nat) : Int))), (11, .int .i64 (((la + 1 : Nat) : Int)))] ∧ Mg w0 w1 (.row 30 11 (.slice (some ⟨g9, 0, none⟩) n9 c9) n9 (cellsOf zs1) :: T)) _ ⟨la + 1, zs, rfl, ⟨by omega, by omega, hzl, hsub, rfl⟩, hA.keep _ ⟨rfl, rfl, rfl, rfl, rfl, rfl, rfl, trivial⟩, hM⟩ ?_
 clear hM hA
 rintro m_ a w2 ⟨i, zs1, rfl, hinv4, hA, hM⟩ K3 hK3
 obtain ⟨hi0, hi1, hzl1, hzs1, hin⟩ := hinv4
 refine wp_seq_k (fun K5 hK5 => ?_)
 refine wp_seq_k (fun K6 hK6 => ?_)
 refine wp_region_lit ?_
 refine seq_do hA rfl rfl rfl (does_move rfl) ?_
 intro a hA
 refine seq_do hA rfl rfl rfl (does_move rfl) ?_
 intro a hA
 rcases Bool.eq_false_or_eq_true (decide (((i : Nat) : Int) < ((lb : Nat) : Int))) with hb7 | hb7
 · have hb7' := of_decide_eq_true hb7
   refine seq_do (v := .bool true) hA rfl rfl rfl (does_bin rfl rfl (fun w => (bin_lss w).trans (by rw [hb7]))) ?_
   intro a hA
   refine seq_end ?_
   refine hK6 _ _ ?_
   refine wp_cond_true (hA.ev rfl) ?_
   refine wp_skip ?_
   refine hK5 _ _ ?_
   refine wp_seq_k (fun K8 hK8 => ?_)
   refine wp_block ?_
   refine wp_seq_k (fun K9 hK9 => ?_)
   refine wp_region_lit ?_
   refine seq_do hA rfl rfl rfl (does_move rfl) ?_
   intro a hA
   refine seq_do hA rfl rfl rfl (does_assign rfl) ?_
   intro a hA
   refine seq_end ?_
   refine hK9 _ _ ?_
   refine wp_block ?_
   refine wp_loop_n (fun m_ a w1 => ∃ (j : Nat) (xs : List Dt), m_ = 1 + j ∧ (la ≤ j ∧ j ≤ i ∧ xs.length = n9 ∧ (∀ t ∈ xs, t ∈ ts) ∧ insJ (ltC c) la xs j = insJ (ltC c) la zs1 i) ∧ Sl a 53 [(0, .slice (some ⟨g9, 0, none⟩) n9 c9), (1, .int .i64 (((la : Nat) : Int))), (2, .int .i64 (((lb : Nat) : Int))), (3, .func (.func f) #[] cs.toArray), (8, .int .i64 (((i : Nat) : Int))), (9, .int .i64 (((j : Nat) : Int))), (10, .int .i64 (((la : Nat) : Int))), (11, .int .i64 (((la + 1 : Nat) : Int))), (12, .int .i64 (((i : Nat) : Int))), (13, .int .i64 (((lb : Nat) : Int))), (14, .bool true), (17, .int .i64 (((i : Nat) : Int)))] ∧ Mg w0 w1 (.row 30 11 (.slice (some ⟨g9, 0, none⟩) n9 c9) n9 (cellsOf xs) :: T)) _ ⟨i, zs1, rfl, ⟨by omega, Nat.le_refl _, hzl1, hzs1, rfl⟩, hA.keep _ ⟨rfl, rfl, rfl, rfl, rfl, rfl, rfl, rfl, rfl, rfl, rfl, rfl, trivial⟩, hM⟩ ?_
   clear hM hA
   rintro m_ a w10 ⟨j, xs, rfl, hinv12, hA, hM⟩ K11 hK11
   obtain ⟨hj0, hj1, hxl, hxs, hjn⟩ := hinv12
   refine wp_seq_k (fun K13 hK13 => ?_)
   refine wp_seq_k (fun K14 hK14 => ?_)
   refine wp_draw (S := fun w1 => Mg w0 w1 (.row 30 11 (.slice (some ⟨g9, 0, none⟩) n9 c9) n9 (cellsOf xs) :: [])) (by kernel_rfl) ?_
   replace hM := hM.drew
   refine any_tk hA 0 rfl rfl rfl rfl hP (hM.sub (.cons_cons _ (List.nil_sublist _))) (fun w1 hM => does_move rfl) ?_
   intro a hA
   refine any_tk hA 1 rfl rfl rfl rfl hP (hM.sub (.cons_cons _ (List.nil_sublist _))) (fun w1 hM => does_move rfl) ?_
   intro a hA
   rcases Bool.eq_false_or_eq_true (decide (((la : Nat) : Int) < ((j : Nat) : Int))) with hb15 | hb15
   · have hb15' := of_decide_eq_true hb15
     refine any_tk (v := .bool true) hA 2 rfl rfl rfl rfl hP (hM.sub (.cons_cons _ (List.nil_sublist _))) (fun w1 hM => does_bin rfl rfl (fun w => (bin_gtr w).trans (by rw [hb15]))) ?_
     intro a hA
     refine any_tk hA 3 rfl rfl rfl rfl hP (hM.sub (.cons_cons _ (List.nil_sublist _))) (fun w1 hM => does_move rfl) ?_
     intro a hA
     refine any_tk hA 4 rfl rfl rfl rfl hP (hM.sub (.cons_cons _ (List.nil_sublist _))) (fun w1 hM => does_move rfl) ?_
     intro a hA
     refine any_tk hA 5 rfl rfl rfl rfl hP (hM.sub (.cons_cons _ (List.nil_sublist _))) (fun w1 hM => does_move rfl) ?_
     intro a hA
     refine any_tk hA 6 rfl rfl rfl rfl hP (hM.sub (.cons_cons _ (List.nil_sublist _))) (fun w1 hM => does_move rfl) ?_
     intro a hA
     refine any_tk (v := .pointer (some ⟨g9, j * 11, none⟩)) hA 7 rfl rfl rfl rfl hP (hM.sub (.cons_cons _ (List.nil_sublist _))) (fun w1 hM => does_indexE (k := j) Tryz.underlying28 (by kernel_rfl) rfl rfl rfl (by omega)) ?_
     intro a hA
     obtain ⟨e16, he16⟩ : ∃ z, xs[j]? = some z := ⟨_, List.getElem?_eq_getElem (by omega)⟩
     refine any_tk hA 8 rfl rfl rfl rfl hP (hM.sub (.cons_cons _ (List.nil_sublist _))) (fun w1 hM => m_loadES (o := j * 11) (cs := e16.d.cells e16.ts.length) hM 0 rfl LiT_isS_30 (cellsOf_at he16) rfl rfl) ?_
     intro a hA
     refine any_tk hA 9 rfl rfl rfl rfl hP (hM.sub (.cons_cons _ (List.nil_sublist _))) (fun w1 hM => does_move rfl) ?_
     intro a hA
     refine any_tk hA 10 rfl rfl rfl rfl hP (hM.sub (.cons_cons _ (List.nil_sublist _))) (fun w1 hM => does_move rfl) ?_
     intro a hA
     refine any_tk (v := .int .i64 (((j - 1 : Nat) : Int))) hA 11 rfl rfl rfl rfl hP (hM.sub (.cons_cons _ (List.nil_sublist _))) (fun w1 hM => does_bin rfl rfl (ar_sub ((in_i64 (by omega) (by omega)).trans (by omega)))) ?_
     intro a hA
     refine any_tk (v := .pointer (some ⟨g9, (j - 1) * 11, none⟩)) hA 12 rfl rfl rfl rfl hP (hM.sub (.cons_cons _ (List.nil_sublist _))) (fun w1 hM => does_indexE (k := (j - 1)) Tryz.underlying28 (by kernel_rfl) rfl rfl rfl (by omega)) ?_
     intro a hA
     obtain ⟨e17, he17⟩ : ∃ z, xs[(j - 1)]? = some z := ⟨_, List.getElem?_eq_getElem (by omega)⟩
     refine any_tk hA 13 rfl rfl rfl rfl hP (hM.sub (.cons_cons _ (List.nil_sublist _))) (fun w1 hM => m_loadES (o := (j - 1) * 11) (cs := e17.d.cells e17.ts.length) hM 0 rfl LiT_isS_30 (cellsOf_at he17) rfl rfl) ?_
     intro a hA
     refine any_one (by kernel_rfl) (op_call hA 14 rfl rfl rfl rfl (enters_fn rfl rfl hF.inv) (hF.run e16 e17 _ (hxs _ (List.mem_of_getElem? he16)) (hxs _ (List.mem_of_getElem? he17)) (hM.sub (.cons _ (List.Sublist.refl _)))) ?_)
     rintro _ w19 ⟨rfl, hb18⟩
     replace hM := hM.call hb18
     refine ⟨_, rfl, (hM.sub (.cons_cons _ (List.nil_sublist _))), ?_⟩
     intro a hA
     rcases Bool.eq_false_or_eq_true (decide ((c e16 e17) < 0)) with hb20 | hb20
     · have hb20' := of_decide_eq_true hb20
       refine any_tk (v := .bool true) hA 15 rfl rfl rfl rfl hP (hM.sub (.cons_cons _ (List.nil_sublist _))) (fun w1 hM => does_bin rfl rfl (fun w => (bin_lss w).trans (by rw [hb20]))) ?_
       intro a hA
       refine any_tk (v := .bool true) hA 16 rfl rfl rfl rfl hP (hM.sub (.cons_cons _ (List.nil_sublist _))) (fun w1 hM => does_pick rfl rfl rfl rfl) ?_
       intro a hA
       refine any_end (by kernel_rfl) ?_
       refine hK14 _ _ ?_
       refine wp_cond_true (hA.ev rfl) ?_
       refine wp_skip ?_
       refine hK13 _ _ ?_
       refine wp_seq_k (fun K21 hK21 => ?_)
       refine wp_block ?_
       refine wp_draw (S := fun w1 => Mg w0 w1 ([])) (by kernel_rfl) ?_
       replace hM := hM.drew
       refine any_tk hA 0 rfl rfl rfl rfl hP (hM.sub (.cons _ (List.nil_sublist _))) (fun w1 hM => does_move rfl) ?_
       intro a hA
       refine any_tk hA 1 rfl rfl rfl rfl hP (hM.sub (.cons _ (List.nil_sublist _))) (fun w1 hM => does_move rfl) ?_
       intro a hA
       refine any_tk hA 2 rfl rfl rfl rfl hP (hM.sub (.cons _ (List.nil_sublist _))) (fun w1 hM => does_move rfl) ?_
       intro a hA
       refine any_tk hA 3 rfl rfl rfl rfl hP (hM.sub (.cons _ (List.nil_sublist _))) (fun w1 hM => does_move rfl) ?_
       intro a hA
       refine any_tk (v := .int .i64 (((j - 1 : Nat) : Int))) hA 4 rfl rfl rfl rfl hP (hM.sub (.cons _ (List.nil_sublist _))) (fun w1 hM => does_bin rfl rfl (ar_sub ((in_i64 (by omega) (by omega)).trans (by omega)))) ?_
       intro a hA
       refine any_tk hA 5 rfl rfl rfl rfl hP (hM.sub (.cons _ (List.nil_sublist _))) (fun w1 hM => does_move rfl) ?_
       intro a hA
       refine any_tk hA 6 rfl rfl rfl rfl hP (hM.sub (.cons _ (List.nil_sublist _))) (fun w1 hM => does_move rfl) ?_
       intro a hA
       refine any_tk (v := .int .i64 (((j - 1 : Nat) : Int))) hA 7 rfl rfl rfl rfl hP (hM.sub (.cons _ (List.nil_sublist _))) (fun w1 hM => does_bin rfl rfl (ar_sub ((in_i64 (by omega) (by omega)).trans (by omega)))) ?_
       intro a hA
       refine any_tk (v := .pointer (some ⟨g9, (j - 1) * 11, none⟩)) hA 8 rfl rfl rfl rfl hP (hM.sub (.cons _ (List.nil_sublist _))) (fun w1 hM => does_indexE (k := (j - 1)) Tryz.underlying28 (by kernel_rfl) rfl rfl rfl (by omega)) ?_
       intro a hA
       refine any_tk hA 10 rfl rfl rfl rfl hP (hM.sub (.cons _ (List.nil_sublist _))) (fun w1 hM => does_move rfl) ?_
       intro a hA
       refine any_tk hA 11 rfl rfl rfl rfl hP (hM.sub (.cons _ (List.nil_sublist _))) (fun w1 hM => does_move rfl) ?_
       intro a hA
       refine any_tk (v := .pointer (some ⟨g9, j * 11, none⟩)) hA 12 rfl rfl rfl rfl hP (hM.sub (.cons _ (List.nil_sublist _))) (fun w1 hM => does_indexE (k := j) Tryz.underlying28 (by kernel_rfl) rfl rfl rfl (by omega)) ?_
       intro a hA
       refine any_many (rs := [9, 13]) (by kernel_rfl) (by simp) ⟨?_, ?_, trivial⟩
       · refine op_do hA 9 rfl rfl rfl rfl (m_loadES (o := (j - 1) * 11) (cs := e17.d.cells e17.ts.length) hM 0 rfl LiT_isS_30 (cellsOf_at he17) rfl rfl) (hM.sub (.cons _ (List.nil_sublist _))) ?_
         intro a hA
         refine any_one (by kernel_rfl) (op_do hA 13 rfl rfl rfl rfl (m_loadES (o := j * 11) (cs := e16.d.cells e16.ts.length) hM 0 rfl LiT_isS_30 (cellsOf_at he16) rfl rfl) (hM.sub (.cons _ (List.nil_sublist _))) ?_)
         intro a hA
         refine any_tk (v := .pointer (some ⟨g9, j * 11, none⟩)) hA 14 rfl rfl rfl rfl hP (hM.sub (.cons _ (List.nil_sublist _))) (fun w1 hM => does_indexE (k := j) Tryz.underlying28 (by kernel_rfl) rfl rfl rfl (by omega)) ?_
         intro a hA
         refine any_one (by kernel_rfl) (g_storeRD (us := cellsOf (xs.set j e17)) (L' := (.row 30 11 (.slice (some ⟨g9, 0, none⟩) n9 c9) n9 (cellsOf (xs.set j e17)) :: T)) hA hM 15 rfl rfl rfl (m_storeE (cs := e17.d.cells e17.ts.length) rfl rfl rfl (by kernel_rfl) hM 0 rfl (by show _ + 11 ≤ _; omega) (cells_all e17)) 0 rfl (over_row (by omega) rfl) rfl ?_)
         intro w22 hM
         refine ⟨(hM.sub (.cons _ (List.nil_sublist _))), ?_⟩
         refine any_tk (v := .pointer (some ⟨g9, (j - 1) * 11, none⟩)) hA 16 rfl rfl rfl rfl hP (hM.sub (.cons _ (List.nil_sublist _))) (fun w1 hM => does_indexE (k := (j - 1)) Tryz.underlying28 (by kernel_rfl) rfl rfl rfl (by omega)) ?_
         intro a hA
         refine any_one (by kernel_rfl) (g_storeRD (us := cellsOf ((xs.set j e17).set (j - 1) e16)) (L' := (.row 30 11 (.slice (some ⟨g9, 0, none⟩) n9 c9) n9 (cellsOf ((xs.set j e17).set (j - 1) e16)) :: T)) hA hM 17 rfl rfl rfl (m_storeE (cs := e16.d.cells e16.ts.length) rfl rfl rfl (by kernel_rfl) hM 0 rfl (by show _ + 11 ≤ _; omega) (cells_all e16)) 0 rfl (over_row (by rw [List.length_set]; omega) rfl) rfl ?_)
         intro w23 hM
         rw [swp_eq he16 he17] at hM
         refine ⟨(hM.sub (.cons _ (List.nil_sublist _))), ?_⟩
         refine any_end (by kernel_rfl) ?_
         refine hK21 _ _ ?_
         refine wp_region_lit ?_
         refine seq_do hA rfl rfl rfl (does_move rfl) ?_
         intro a hA
         refine seq_do (v := .int .i64 (((j - 1 : Nat) : Int))) hA rfl rfl rfl (does_bin rfl rfl (ar_sub ((in_i64 (by omega) (by omega)).trans (by omega)))) ?_
         intro a hA
         refine seq_do hA rfl rfl rfl (does_assign rfl) ?_
         intro a hA
         refine seq_end ?_
         refine hK11 _ _ _ (by omega) ⟨j - 1, (swp xs j (j - 1)), rfl, ⟨by omega, by omega, by rw [swp_len]; exact hxl, fun t ht => hxs t (swp_mem ht), by rw [← hjn]; exact insJ_go (by omega) (ltC_at he16 he17 hb20)⟩, hA.keep _ ⟨rfl, rfl, rfl, rfl, rfl, rfl, rfl, rfl, rfl, rfl, rfl, rfl, trivial⟩, hM⟩
       · refine op_do hA 13 rfl rfl rfl rfl (m_loadES (o := j * 11) (cs := e16.d.cells e16.ts.length) hM 0 rfl LiT_isS_30 (cellsOf_at he16) rfl rfl) (hM.sub (.cons _ (List.nil_sublist _))) ?_
         intro a hA
         refine any_one (by kernel_rfl) (op_do hA 9 rfl rfl rfl rfl (m_loadES (o := (j - 1) * 11) (cs := e17.d.cells e17.ts.length) hM 0 rfl LiT_isS_30 (cellsOf_at he17) rfl rfl) (hM.sub (.cons _ (List.nil_sublist _))) ?_)
         intro a hA
         refine any_tk (v := .pointer (some ⟨g9, j * 11, none⟩)) hA 14 rfl rfl rfl rfl hP (hM.sub (.cons _ (List.nil_sublist _))) (fun w1 hM => does_indexE (k := j) Tryz.underlying28 (by kernel_rfl) rfl rfl rfl (by omega)) ?_
         intro a hA
         refine any_one (by kernel_rfl) (g_storeRD (us := cellsOf (xs.set j e17)) (L' := (.row 30 11 (.slice (some ⟨g9, 0, none⟩) n9 c9) n9 (cellsOf (xs.set j e17)) :: T)) hA hM 15 rfl rfl rfl (m_storeE (cs := e17.d.cells e17.ts.length) rfl rfl rfl (by kernel_rfl) hM 0 rfl (by show _ + 11 ≤ _; omega) (cells_all e17)) 0 rfl (over_row (by omega) rfl) rfl ?_)
         intro w24 hM
         refine ⟨(hM.sub (.cons _ (List.nil_sublist _))), ?_⟩
         refine any_tk (v := .pointer (some ⟨g9, (j - 1) * 11, none⟩)) hA 16 rfl rfl rfl rfl hP (hM.sub (.cons _ (List.nil_sublist _))) (fun w1 hM => does_indexE (k := (j - 1)) Tryz.underlying28 (by kernel_rfl) rfl rfl rfl (by omega)) ?_
         intro a hA
         refine any_one (by kernel_rfl) (g_storeRD (us := cellsOf ((xs.set j e17).set (j - 1) e16)) (L' := (.row 30 11 (.slice (some ⟨g9, 0, none⟩) n9 c9) n9 (cellsOf ((xs.set j e17).set (j - 1) e16)) :: T)) hA hM 17 rfl rfl rfl (m_storeE (cs := e16.d.cells e16.ts.length) rfl rfl rfl (by kernel_rfl) hM 0 rfl (by show _ + 11 ≤ _; omega) (cells_all e16)) 0 rfl (over_row (by rw [List.length_set]; omega) rfl) rfl ?_)
         intro w25 hM
         rw [swp_eq he16 he17] at hM
         refine ⟨(hM.sub (.cons _ (List.nil_sublist _))), ?_⟩
         refine any_end (by kernel_rfl) ?_
         refine hK21 _ _ ?_
         refine wp_region_lit ?_
         refine seq_do hA rfl rfl rfl (does_move rfl) ?_
         intro a hA
         refine seq_do (v := .int .i64 (((j - 1 : Nat) : Int))) hA rfl rfl rfl (does_bin rfl rfl (ar_sub ((in_i64 (by omega) (by omega)).trans (by omega)))) ?_
         intro a hA
         refine seq_do hA rfl rfl rfl (does_assign rfl) ?_
         intro a hA
         refine seq_end ?_
         refine hK11 _ _ _ (by omega) ⟨j - 1, (swp xs j (j - 1)), rfl, ⟨by omega, by omega, by rw [swp_len]; exact hxl, fun t ht => hxs t (swp_mem ht), by rw [← hjn]; exact insJ_go (by omega) (ltC_at he16 he17 hb20)⟩, hA.keep _ ⟨rfl, rfl, rfl, rfl, rfl, rfl, rfl, rfl, rfl, rfl, rfl, rfl, trivial⟩, hM⟩
     · have hb20' := of_decide_eq_false hb20
       refine any_tk (v := .bool false) hA 15 rfl rfl rfl rfl hP (hM.sub (.cons_cons _ (List.nil_sublist _))) (fun w1 hM => does_bin rfl rfl (fun w => (bin_lss w).trans (by rw [hb20]))) ?_
       intro a hA
       refine any_tk (v := .bool false) hA 16 rfl rfl rfl rfl hP (hM.sub (.cons_cons _ (List.nil_sublist _))) (fun w1 hM => does_pick rfl rfl rfl rfl) ?_
       intro a hA
       refine any_end (by kernel_rfl) ?_
       refine hK14 _ _ ?_
       refine wp_cond_false (hA.ev rfl) ?_
       refine wp_exit ?_
       refine hK8 _ _ ?_
       refine wp_region_lit ?_
       refine seq_do hA rfl rfl rfl (does_move rfl) ?_
       intro a hA
       refine seq_do (v := .int .i64 (((i + 1 : Nat) : Int))) hA rfl rfl rfl (does_bin rfl rfl (ar_add ((in_i64 (by omega) (by omega)).trans (by omega)))) ?_
       intro a hA
       refine seq_do hA rfl rfl rfl (does_assign rfl) ?_
       intro a hA
       refine seq_end ?_
       rw [insJ_stop (ltC_at he16 he17 hb20)] at hjn
       refine hK3 _ _ _ (by omega) ⟨i + 1, xs, rfl, ⟨by omega, by omega, hxl, hxs, by rw [← hin, hjn, show lb - i = lb - (i + 1) + 1 by omega]; rfl⟩, hA.keep _ ⟨rfl, rfl, rfl, rfl, rfl, rfl, rfl, trivial⟩, hM⟩
   · have hb15' := of_decide_eq_false hb15
     refine any_tk (v := .bool false) hA 2 rfl rfl rfl rfl hP (hM.sub (.cons_cons _ (List.nil_sublist _))) (fun w1 hM => does_bin rfl rfl (fun w => (bin_gtr w).trans (by rw [hb15]))) ?_
     intro a hA
     refine any_tk hA 3 rfl rfl rfl rfl hP (hM.sub (.cons_cons _ (List.nil_sublist _))) (fun w1 hM => does_move rfl) ?_
     intro a hA
     refine any_sk hA 4 rfl rfl rfl rfl hP (hM.sub (.cons_cons _ (List.nil_sublist _))) ?_
     intro a hA
     refine any_sk hA 5 rfl rfl rfl rfl hP (hM.sub (.cons_cons _ (List.nil_sublist _))) ?_
     intro a hA
     refine any_sk hA 6 rfl rfl rfl rfl hP (hM.sub (.cons_cons _ (List.nil_sublist _))) ?_
     intro a hA
     refine any_sk hA 7 rfl rfl rfl rfl hP (hM.sub (.cons_cons _ (List.nil_sublist _))) ?_
     intro a hA
     refine any_sk hA 8 rfl rfl rfl rfl hP (hM.sub (.cons_cons _ (List.nil_sublist _))) ?_
     intro a hA
     refine any_sk hA 9 rfl rfl rfl rfl hP (hM.sub (.cons_cons _ (List.nil_sublist _))) ?_
     intro a hA
     refine any_sk hA 10 rfl rfl rfl rfl hP (hM.sub (.cons_cons _ (List.nil_sublist _))) ?_
     intro a hA
     refine any_sk hA 11 rfl rfl rfl rfl hP (hM.sub (.cons_cons _ (List.nil_sublist _))) ?_
     intro a hA
     refine any_sk hA 12 rfl rfl rfl rfl hP (hM.sub (.cons_cons _ (List.nil_sublist _))) ?_
     intro a hA
     refine any_sk hA 13 rfl rfl rfl rfl hP (hM.sub (.cons_cons _ (List.nil_sublist _))) ?_
     intro a hA
     refine any_sk hA 14 rfl rfl rfl rfl hP (hM.sub (.cons_cons _ (List.nil_sublist _))) ?_
     intro a hA
     refine any_sk hA 15 rfl rfl rfl rfl hP (hM.sub (.cons_cons _ (List.nil_sublist _))) ?_
     intro a hA
     refine any_tk (v := .bool false) hA 16 rfl rfl rfl rfl hP (hM.sub (.cons_cons _ (List.nil_sublist _))) (fun w1 hM => does_pick rfl rfl rfl rfl) ?_
     intro a hA
     refine any_end (by kernel_rfl) ?_
     refine hK14 _ _ ?_
     refine wp_cond_false (hA.ev rfl) ?_
     refine wp_exit ?_
     refine hK8 _ _ ?_
     refine wp_region_lit ?_
     refine seq_do hA rfl rfl rfl (does_move rfl) ?_
     intro a hA
     refine seq_do (v := .int .i64 (((i + 1 : Nat) : Int))) hA rfl rfl rfl (does_bin rfl rfl (ar_add ((in_i64 (by omega) (by omega)).trans (by omega)))) ?_
     intro a hA
     refine seq_do hA rfl rfl rfl (does_assign rfl) ?_
     intro a hA
     refine seq_end ?_
     rw [insJ_end (by omega)] at hjn
     refine hK3 _ _ _ (by omega) ⟨i + 1, xs, rfl, ⟨by omega, by omega, hxl, hxs, by rw [← hin, hjn, show lb - i = lb - (i + 1) + 1 by omega]; rfl⟩, hA.keep _ ⟨rfl, rfl, rfl, rfl, rfl, rfl, rfl, trivial⟩, hM⟩
 · have hb7' := of_decide_eq_false hb7
   refine seq_do (v := .bool false) hA rfl rfl rfl (does_bin rfl rfl (fun w => (bin_lss w).trans (by rw [hb7]))) ?_
   intro a hA
   refine seq_end ?_
   refine hK6 _ _ ?_
   refine wp_cond_false (hA.ev rfl) ?_
   refine wp_exit ?_
   refine hnorm _ _ ?_
   refine ends (v := .tuple #[]) hA rfl .nil rfl ?_
   replace hin : insO (ltC c) la (lb - i) i zs1 = insO (ltC c) la (lb - (la + 1)) (la + 1) zs := hin
   rw [show lb - i = 0 by omega] at hin
   replace hin : zs1 = _ := hin
   rw [hin] at hM
   exact ⟨rfl, hM⟩
theorem LiU_isS_30 : IsS Tryz.prog 30 11 := ⟨⟨_, Tryz.underlying30⟩, by kernel_rfl⟩
def SymC (f : FuncId) (cs : List Value) (c : Dt → Dt → Int) (ts : List Dt) (w0 : World) (g9 c9 n9 : Nat) (T : List Ck) (d : Nat) : Prop := ∀ {w : World} {zs : List Dt} {la lm lb : Nat}, lb - la ≤ d → zs.length = n9 → (∀ t ∈ zs, t ∈ ts) → la < lm → lm < lb → lb ≤ n9 → UpS (ltC c) zs la lm → UpS (ltC c) zs lm lb → Mg w0 w (.row 30 11 (.slice (some ⟨g9, 0, none⟩) n9 c9) n9 (cellsOf zs) :: T) → Calls Tryz.prog 97 #[.slice (some ⟨g9, 0, none⟩) n9 c9, .int .i64 ((la : Nat) : Int), .int .i64 ((lm : Nat) : Int), .int .i64 ((lb : Nat) : Int), .func (.func f) #[] cs.toArray] w fun e w' => e = .returned (.tuple #[]) ∧ Mg w0 w' (.row 30 11 (.slice (some ⟨g9, 0, none⟩) n9 c9) n9 (cellsOf (mg (ltC c) zs la lm lb)) :: T)
set_option maxHeartbeats 1000000 in
theorem sym_succ {f : FuncId} {cs : List Value} {c : Dt → Dt → Int} {ts : List Dt} {w0 : World} {g9 c9 n9 : Nat} {T : List Ck} (hl : n9 ≤ 1000000000) (hF : Cmps Tryz.prog f cs w0 T ts c) (H : Swo (ltC c)) {d : Nat} (ih : SymC f cs c ts w0 g9 c9 n9 T d) : SymC f cs c ts w0 g9 c9 n9 T (d + 1) := by
 intro w zs la lm lb hd hzl hsub ham hmb hbn hu1 hu2 hM0
 have hM : Mg w0 w (.row 30 11 (.slice (some ⟨g9, 0, none⟩) n9 c9) n9 (cellsOf zs) :: T) := hM0
 refine walk_of (l := [(0, .slice (some ⟨g9, 0, none⟩) n9 c9), (1, .int .i64 (((la : Nat) : Int))), (2, .int .i64 (((lm : Nat) : Int))), (3, .int .i64 (((lb : Nat) : Int))), (4, .func (.func f) #[] cs.toArray)]) Tryz.func97 rfl Tryz.ntmps97 rfl rfl ?_
 intro Q hret hnorm hP a hA
 refine wp_seq_k (fun K1 hK1 => ?_)
 refine wp_seq_k (fun K2 hK2 => ?_)
 refine wp_region_lit ?_
 refine seq_do hA rfl rfl rfl (does_move rfl) ?_
 intro a hA
 refine seq_do hA rfl rfl rfl (does_move rfl) ?_
 intro a hA
 refine seq_do (v := .int .i64 (((lm - la : Nat) : Int))) hA rfl rfl rfl (does_bin rfl rfl (ar_sub ((in_i64 (by omega) (by omega)).trans (by omega)))) ?_
 intro a hA
 rcases Bool.eq_false_or_eq_true ((((lm - la : Nat) : Int) == 1)) with hb3 | hb3
 · have hb3' := eq_of_beq hb3
   refine seq_do (v := .bool true) hA rfl rfl rfl (does_bin rfl rfl (fun w => (bin_eql w).trans (by rw [hb3]))) ?_
   intro a hA
   refine seq_end ?_
   refine hK2 _ _ ?_
   refine wp_cond_true (hA.ev rfl) ?_
   refine wp_seq_k (fun K4 hK4 => ?_)
   refine wp_region_lit ?_
   refine seq_do hA rfl rfl rfl (does_move rfl) ?_
   intro a hA
   refine seq_do hA rfl rfl rfl (does_assign rfl) ?_
   intro a hA
   refine seq_end ?_
   refine hK4 _ _ ?_
   refine wp_seq_k (fun K5 hK5 => ?_)
   refine wp_region_lit ?_
   refine seq_do hA rfl rfl rfl (does_move rfl) ?_
   intro a hA
   refine seq_do hA rfl rfl rfl (does_assign rfl) ?_
   intro a hA
   refine seq_end ?_
   refine hK5 _ _ ?_
   refine wp_seq_k (fun K6 hK6 => ?_)
   refine wp_block ?_
   refine wp_loop_n (fun m_ a w1 => ∃ (i : Nat) (j : Nat), m_ = 1 + (j - i) ∧ (lm ≤ i ∧ i ≤ j ∧ j ≤ lb ∧ (i = lm ∨ ltA (ltC c) zs (i - 1) la = true) ∧ (j = lb ∨ ltA (ltC c) zs j la = false)) ∧ Sl a 220 [(0, .slice (some ⟨g9, 0, none⟩) n9 c9), (1, .int .i64 (((la : Nat) : Int))), (2, .int .i64 (((lm : Nat) : Int))), (3, .int .i64 (((lb : Nat) : Int))), (4, .func (.func f) #[] cs.toArray), (10, .int .i64 (((i : Nat) : Int))), (11, .int .i64 (((j : Nat) : Int))), (25, .int .i64 (((lm : Nat) : Int))), (26, .int .i64 (((la : Nat) : Int))), (27, .int .i64 (((lm - la : Nat) : Int))), (28, .bool true), (29, .int .i64 (((lm : Nat) : Int))), (30, .int .i64 (((lb : Nat) : Int)))] ∧ Mg w0 w1 (.row 30 11 (.slice (some ⟨g9, 0, none⟩) n9 c9) n9 (cellsOf zs) :: T)) _ ⟨lm, lb, rfl, ⟨Nat.le_refl _, by omega, Nat.le_refl _, .inl rfl, .inl rfl⟩, hA.keep _ ⟨rfl, rfl, rfl, rfl, rfl, rfl, rfl, rfl, rfl, rfl, rfl, rfl, rfl, trivial⟩, hM⟩ ?_
   clear hM hA
   rintro m_ a w7 ⟨i, j, rfl, hinv9, hA, hM⟩ K8 hK8
   obtain ⟨hi0, hi1, hi2, hil, hjr⟩ := hinv9
   refine wp_seq_k (fun K10 hK10 => ?_)
   refine wp_seq_k (fun K11 hK11 => ?_)
   refine wp_region_lit ?_
   refine seq_do hA rfl rfl rfl (does_move rfl) ?_
   intro a hA
   refine seq_do hA rfl rfl rfl (does_move rfl) ?_
   intro a hA
   rcases Bool.eq_false_or_eq_true (decide (((i : Nat) : Int) < ((j : Nat) : Int))) with hb12 | hb12
   · have hb12' := of_decide_eq_true hb12
     refine seq_do (v := .bool true) hA rfl rfl rfl (does_bin rfl rfl (fun w => (bin_lss w).trans (by rw [hb12]))) ?_
     intro a hA
     refine seq_end ?_
     refine hK11 _ _ ?_
     refine wp_cond_true (hA.ev rfl) ?_
     refine wp_skip ?_
     refine hK10 _ _ ?_
     refine wp_block ?_
     refine wp_seq_k (fun K13 hK13 => ?_)
     refine wp_region_lit ?_
     refine seq_do hA rfl rfl rfl (does_move rfl) ?_
     intro a hA
     refine seq_do hA rfl rfl rfl (does_move rfl) ?_
     intro a hA
     refine seq_do (v := .int .i64 (((i + j : Nat) : Int))) hA rfl rfl rfl (does_bin rfl rfl (ar_add ((in_i64 (by omega) (by omega)).trans (by omega)))) ?_
     intro a hA
     refine seq_do (v := .int .u64 (((i + j : Nat) : Int))) hA rfl rfl rfl (does_convert rfl (ar_conv Tryz.underlying3 Tryz.underlying109 (u64_in (by omega) (by omega)))) ?_
     intro a hA
     refine seq_do (v := .int .u64 ((((i + j) / 2 : Nat) : Int))) hA rfl rfl rfl (does_bin rfl rfl (ar_shr (n := 1) rfl rfl (show ((i + j : Nat) : Int) / 2 ^ 1 = (((i + j) / 2 : Nat) : Int) from by rw [show ((2 : Int) ^ 1) = 2 from rfl]; omega))) ?_
     intro a hA
     refine seq_do (v := .int .i64 ((((i + j) / 2 : Nat) : Int))) hA rfl rfl rfl (does_convert rfl (ar_conv Tryz.underlying109 Tryz.underlying3 (in_i64 (by omega) (by omega)))) ?_
     intro a hA
     refine seq_do hA rfl rfl rfl (does_assign rfl) ?_
     intro a hA
     refine seq_end ?_
     refine hK13 _ _ ?_
     refine wp_seq_k (fun K14 hK14 => ?_)
     refine wp_draw (S := fun w1 => Mg w0 w1 (.row 30 11 (.slice (some ⟨g9, 0, none⟩) n9 c9) n9 (cellsOf zs) :: [])) (by kernel_rfl) ?_
     replace hM := hM.drew
     refine any_tk hA 0 rfl rfl rfl rfl hP (hM.sub (.cons_cons _ (List.nil_sublist _))) (fun w1 hM => does_move rfl) ?_
     intro a hA
     refine any_tk hA 1 rfl rfl rfl rfl hP (hM.sub (.cons_cons _ (List.nil_sublist _))) (fun w1 hM => does_move rfl) ?_
     intro a hA
     refine any_tk hA 2 rfl rfl rfl rfl hP (hM.sub (.cons_cons _ (List.nil_sublist _))) (fun w1 hM => does_move rfl) ?_
     intro a hA
     refine any_tk (v := .pointer (some ⟨g9, ((i + j) / 2) * 11, none⟩)) hA 3 rfl rfl rfl rfl hP (hM.sub (.cons_cons _ (List.nil_sublist _))) (fun w1 hM => does_indexE (k := ((i + j) / 2)) Tryz.underlying28 (by kernel_rfl) rfl rfl rfl (by omega)) ?_
     intro a hA
     obtain ⟨e15, he15⟩ : ∃ z, zs[((i + j) / 2)]? = some z := ⟨_, List.getElem?_eq_getElem (by omega)⟩
     refine any_tk hA 4 rfl rfl rfl rfl hP (hM.sub (.cons_cons _ (List.nil_sublist _))) (fun w1 hM => m_loadES (o := ((i + j) / 2) * 11) (cs := e15.d.cells e15.ts.length) hM 0 rfl LiU_isS_30 (cellsOf_at he15) rfl rfl) ?_
     intro a hA
     refine any_tk hA 5 rfl rfl rfl rfl hP (hM.sub (.cons_cons _ (List.nil_sublist _))) (fun w1 hM => does_move rfl) ?_
     intro a hA
     refine any_tk hA 6 rfl rfl rfl rfl hP (hM.sub (.cons_cons _ (List.nil_sublist _))) (fun w1 hM => does_move rfl) ?_
     intro a hA
     refine any_tk (v := .pointer (some ⟨g9, la * 11, none⟩)) hA 7 rfl rfl rfl rfl hP (hM.sub (.cons_cons _ (List.nil_sublist _))) (fun w1 hM => does_indexE (k := la) Tryz.underlying28 (by kernel_rfl) rfl rfl rfl (by omega)) ?_
     intro a hA
     obtain ⟨e16, he16⟩ : ∃ z, zs[la]? = some z := ⟨_, List.getElem?_eq_getElem (by omega)⟩
     refine any_tk hA 8 rfl rfl rfl rfl hP (hM.sub (.cons_cons _ (List.nil_sublist _))) (fun w1 hM => m_loadES (o := la * 11) (cs := e16.d.cells e16.ts.length) hM 0 rfl LiU_isS_30 (cellsOf_at he16) rfl rfl) ?_
     intro a hA
     refine any_one (by kernel_rfl) (op_call hA 9 rfl rfl rfl rfl (enters_fn rfl rfl hF.inv) (hF.run e15 e16 _ (hsub _ (List.mem_of_getElem? he15)) (hsub _ (List.mem_of_getElem? he16)) (hM.sub (.cons _ (List.Sublist.refl _)))) ?_)
     rintro _ w18 ⟨rfl, hb17⟩
     replace hM := hM.call hb17
     refine ⟨_, rfl, (hM.sub (.cons_cons _ (List.nil_sublist _))), ?_⟩
     intro a hA
     rcases Bool.eq_false_or_eq_true (decide ((c e15 e16) < 0)) with hb19 | hb19
     · have hb19' := of_decide_eq_true hb19
       refine any_tk (v := .bool true) hA 10 rfl rfl rfl rfl hP (hM.sub (.cons_cons _ (List.nil_sublist _))) (fun w1 hM => does_bin rfl rfl (fun w => (bin_lss w).trans (by rw [hb19]))) ?_
       intro a hA
       refine any_end (by kernel_rfl) ?_
       refine hK14 _ _ ?_
       refine wp_cond_true (hA.ev rfl) ?_
       refine wp_region_lit ?_
       refine seq_do hA rfl rfl rfl (does_move rfl) ?_
       intro a hA
       refine seq_do (v := .int .i64 (((((i + j) / 2) + 1 : Nat) : Int))) hA rfl rfl rfl (does_bin rfl rfl (ar_add ((in_i64 (by omega) (by omega)).trans (by omega)))) ?_
       intro a hA
       refine seq_do hA rfl rfl rfl (does_assign rfl) ?_
       intro a hA
       refine seq_end ?_
       refine hK8 _ _ _ (by omega) ⟨(i + j) / 2 + 1, j, rfl, ⟨by omega, by omega, by omega, .inr (by rw [Nat.add_sub_cancel]; exact ltC_at he15 he16 hb19), hjr⟩, hA.keep _ ⟨rfl, rfl, rfl, rfl, rfl, rfl, rfl, rfl, rfl, rfl, rfl, rfl, rfl, trivial⟩, hM⟩
     · have hb19' := of_decide_eq_false hb19
       refine any_tk (v := .bool false) hA 10 rfl rfl rfl rfl hP (hM.sub (.cons_cons _ (List.nil_sublist _))) (fun w1 hM => does_bin rfl rfl (fun w => (bin_lss w).trans (by rw [hb19]))) ?_
       intro a hA
       refine any_end (by kernel_rfl) ?_
       refine hK14 _ _ ?_
       refine wp_cond_false (hA.ev rfl) ?_
       refine wp_region_lit ?_
       refine seq_do hA rfl rfl rfl (does_move rfl) ?_
       intro a hA
       refine seq_do hA rfl rfl rfl (does_assign rfl) ?_
       intro a hA
       refine seq_end ?_
       refine hK8 _ _ _ (by omega) ⟨i, (i + j) / 2, rfl, ⟨by omega, by omega, by omega, hil, .inr (ltC_at he15 he16 hb19)⟩, hA.keep _ ⟨rfl, rfl, rfl, rfl, rfl, rfl, rfl, rfl, rfl, rfl, rfl, rfl, rfl, trivial⟩, hM⟩
   · have hb12' := of_decide_eq_false hb12
     refine seq_do (v := .bool false) hA rfl rfl rfl (does_bin rfl rfl (fun w => (bin_lss w).trans (by rw [hb12]))) ?_
     intro a hA
     refine seq_end ?_
     refine hK11 _ _ ?_
     refine wp_cond_false (hA.ev rfl) ?_
     refine wp_exit ?_
     refine hK6 _ _ ?_
     refine wp_seq_k (fun K20 hK20 => ?_)
     refine wp_seq_k (fun K21 hK21 => ?_)
     refine wp_region_lit ?_
     refine seq_do hA rfl rfl rfl (does_move rfl) ?_
     intro a hA
     refine seq_do hA rfl rfl rfl (does_assign rfl) ?_
     intro a hA
     refine seq_end ?_
     refine hK21 _ _ ?_
     refine wp_block ?_
     refine wp_loop_n (fun m_ a w1 => ∃ (k : Nat) (xs : List Dt), m_ = 1 + (i - k) ∧ (la ≤ k ∧ k + 1 ≤ i ∧ xs.length = n9 ∧ mvU xs k (i - 1 - k) = mvU zs la (i - 1 - la)) ∧ Sl a 220 [(0, .slice (some ⟨g9, 0, none⟩) n9 c9), (1, .int .i64 (((la : Nat) : Int))), (2, .int .i64 (((lm : Nat) : Int))), (3, .int .i64 (((lb : Nat) : Int))), (4, .func (.func f) #[] cs.toArray), (10, .int .i64 (((i : Nat) : Int))), (11, .int .i64 (((j : Nat) : Int))), (13, .int .i64 (((k : Nat) : Int))), (25, .int .i64 (((lm : Nat) : Int))), (26, .int .i64 (((la : Nat) : Int))), (27, .int .i64 (((lm - la : Nat) : Int))), (28, .bool true), (29, .int .i64 (((lm : Nat) : Int))), (30, .int .i64 (((lb : Nat) : Int))), (31, .int .i64 (((i : Nat) : Int))), (32, .int .i64 (((j : Nat) : Int))), (33, .bool false), (54, .int .i64 (((la : Nat) : Int)))] ∧ Mg w0 w1 (.row 30 11 (.slice (some ⟨g9, 0, none⟩) n9 c9) n9 (cellsOf xs) :: T)) _ ⟨la, zs, rfl, ⟨Nat.le_refl _, by omega, hzl, rfl⟩, hA.keep _ ⟨rfl, rfl, rfl, rfl, rfl, rfl, rfl, rfl, rfl, rfl, rfl, rfl, rfl, rfl, rfl, rfl, rfl, rfl, trivial⟩, hM⟩ ?_
     clear hM hA
     rintro m_ a w22 ⟨k, xs, rfl, hinv24, hA, hM⟩ K23 hK23
     obtain ⟨hk0, hk1, hxl, hin⟩ := hinv24
     refine wp_seq_k (fun K25 hK25 => ?_)
     refine wp_seq_k (fun K26 hK26 => ?_)
     refine wp_region_lit ?_
     refine seq_do hA rfl rfl rfl (does_move rfl) ?_
     intro a hA
     refine seq_do hA rfl rfl rfl (does_move rfl) ?_
     intro a hA
     refine seq_do (v := .int .i64 (((i - 1 : Nat) : Int))) hA rfl rfl rfl (does_bin rfl rfl (ar_sub ((in_i64 (by omega) (by omega)).trans (by omega)))) ?_
     intro a hA
     rcases Bool.eq_false_or_eq_true (decide (((k : Nat) : Int) < ((i - 1 : Nat) : Int))) with hb27 | hb27
     · have hb27' := of_decide_eq_true hb27
       refine seq_do (v := .bool true) hA rfl rfl rfl (does_bin rfl rfl (fun w => (bin_lss w).trans (by rw [hb27]))) ?_
       intro a hA
       refine seq_end ?_
       refine hK26 _ _ ?_
       refine wp_cond_true (hA.ev rfl) ?_
       refine wp_skip ?_
       refine hK25 _ _ ?_
       refine wp_seq_k (fun K28 hK28 => ?_)
       refine wp_block ?_
       refine wp_draw (S := fun w1 => Mg w0 w1 ([])) (by kernel_rfl) ?_
       replace hM := hM.drew
       refine any_tk hA 0 rfl rfl rfl rfl hP (hM.sub (.cons _ (List.nil_sublist _))) (fun w1 hM => does_move rfl) ?_
       intro a hA
       refine any_tk hA 1 rfl rfl rfl rfl hP (hM.sub (.cons _ (List.nil_sublist _))) (fun w1 hM => does_move rfl) ?_
       intro a hA
       refine any_tk hA 2 rfl rfl rfl rfl hP (hM.sub (.cons _ (List.nil_sublist _))) (fun w1 hM => does_move rfl) ?_
       intro a hA
       refine any_tk hA 3 rfl rfl rfl rfl hP (hM.sub (.cons _ (List.nil_sublist _))) (fun w1 hM => does_move rfl) ?_
       intro a hA
       refine any_tk (v := .int .i64 (((k + 1 : Nat) : Int))) hA 4 rfl rfl rfl rfl hP (hM.sub (.cons _ (List.nil_sublist _))) (fun w1 hM => does_bin rfl rfl (ar_add ((in_i64 (by omega) (by omega)).trans (by omega)))) ?_
       intro a hA
       refine any_tk hA 5 rfl rfl rfl rfl hP (hM.sub (.cons _ (List.nil_sublist _))) (fun w1 hM => does_move rfl) ?_
       intro a hA
       refine any_tk hA 6 rfl rfl rfl rfl hP (hM.sub (.cons _ (List.nil_sublist _))) (fun w1 hM => does_move rfl) ?_
       intro a hA
       refine any_tk (v := .int .i64 (((k + 1 : Nat) : Int))) hA 7 rfl rfl rfl rfl hP (hM.sub (.cons _ (List.nil_sublist _))) (fun w1 hM => does_bin rfl rfl (ar_add ((in_i64 (by omega) (by omega)).trans (by omega)))) ?_
       intro a hA
       refine any_tk (v := .pointer (some ⟨g9, (k + 1) * 11, none⟩)) hA 8 rfl rfl rfl rfl hP (hM.sub (.cons _ (List.nil_sublist _))) (fun w1 hM => does_indexE (k := (k + 1)) Tryz.underlying28 (by kernel_rfl) rfl rfl rfl (by omega)) ?_
       intro a hA
       refine any_tk hA 10 rfl rfl rfl rfl hP (hM.sub (.cons _ (List.nil_sublist _))) (fun w1 hM => does_move rfl) ?_
       intro a hA
       refine any_tk hA 11 rfl rfl rfl rfl hP (hM.sub (.cons _ (List.nil_sublist _))) (fun w1 hM => does_move rfl) ?_
       intro a hA
       refine any_tk (v := .pointer (some ⟨g9, k * 11, none⟩)) hA 12 rfl rfl rfl rfl hP (hM.sub (.cons _ (List.nil_sublist _))) (fun w1 hM => does_indexE (k := k) Tryz.underlying28 (by kernel_rfl) rfl rfl rfl (by omega)) ?_
       intro a hA
       refine any_many (rs := [9, 13]) (by kernel_rfl) (by simp) ⟨?_, ?_, trivial⟩
       · obtain ⟨e29, he29⟩ : ∃ z, xs[(k + 1)]? = some z := ⟨_, List.getElem?_eq_getElem (by omega)⟩
         refine op_do hA 9 rfl rfl rfl rfl (m_loadES (o := (k + 1) * 11) (cs := e29.d.cells e29.ts.length) hM 0 rfl LiU_isS_30 (cellsOf_at he29) rfl rfl) (hM.sub (.cons _ (List.nil_sublist _))) ?_
         intro a hA
         obtain ⟨e30, he30⟩ : ∃ z, xs[k]? = some z := ⟨_, List.getElem?_eq_getElem (by omega)⟩
         refine any_one (by kernel_rfl) (op_do hA 13 rfl rfl rfl rfl (m_loadES (o := k * 11) (cs := e30.d.cells e30.ts.length) hM 0 rfl LiU_isS_30 (cellsOf_at he30) rfl rfl) (hM.sub (.cons _ (List.nil_sublist _))) ?_)
         intro a hA
         refine any_tk (v := .pointer (some ⟨g9, k * 11, none⟩)) hA 14 rfl rfl rfl rfl hP (hM.sub (.cons _ (List.nil_sublist _))) (fun w1 hM => does_indexE (k := k) Tryz.underlying28 (by kernel_rfl) rfl rfl rfl (by omega)) ?_
         intro a hA
         refine any_one (by kernel_rfl) (g_storeRD (us := cellsOf (xs.set k e29)) (L' := (.row 30 11 (.slice (some ⟨g9, 0, none⟩) n9 c9) n9 (cellsOf (xs.set k e29)) :: T)) hA hM 15 rfl rfl rfl (m_storeE (cs := e29.d.cells e29.ts.length) rfl rfl rfl (by kernel_rfl) hM 0 rfl (by show _ + 11 ≤ _; omega) (cells_all e29)) 0 rfl (over_row (by omega) rfl) rfl ?_)
         intro w31 hM
         refine ⟨(hM.sub (.cons _ (List.nil_sublist _))), ?_⟩
         refine any_tk (v := .pointer (some ⟨g9, (k + 1) * 11, none⟩)) hA 16 rfl rfl rfl rfl hP (hM.sub (.cons _ (List.nil_sublist _))) (fun w1 hM => does_indexE (k := (k + 1)) Tryz.underlying28 (by kernel_rfl) rfl rfl rfl (by omega)) ?_
         intro a hA
         refine any_one (by kernel_rfl) (g_storeRD (us := cellsOf ((xs.set k e29).set (k + 1) e30)) (L' := (.row 30 11 (.slice (some ⟨g9, 0, none⟩) n9 c9) n9 (cellsOf ((xs.set k e29).set (k + 1) e30)) :: T)) hA hM 17 rfl rfl rfl (m_storeE (cs := e30.d.cells e30.ts.length) rfl rfl rfl (by kernel_rfl) hM 0 rfl (by show _ + 11 ≤ _; omega) (cells_all e30)) 0 rfl (over_row (by rw [List.length_set]; omega) rfl) rfl ?_)
         intro w32 hM
         rw [swp_eq he30 he29] at hM
         refine ⟨(hM.sub (.cons _ (List.nil_sublist _))), ?_⟩
         refine any_end (by kernel_rfl) ?_
         refine hK28 _ _ ?_
         refine wp_region_lit ?_
         refine seq_do hA rfl rfl rfl (does_move rfl) ?_
         intro a hA
         refine seq_do (v := .int .i64 (((k + 1 : Nat) : Int))) hA rfl rfl rfl (does_bin rfl rfl (ar_add ((in_i64 (by omega) (by omega)).trans (by omega)))) ?_
         intro a hA
         refine seq_do hA rfl rfl rfl (does_assign rfl) ?_
         intro a hA
         refine seq_end ?_
         refine hK23 _ _ _ (by omega) ⟨k + 1, (swp xs k (k + 1)), rfl, ⟨by omega, by omega, by rw [swp_len]; exact hxl, by rw [← hin, show i - 1 - k = i - 1 - (k + 1) + 1 by omega]; rfl⟩, hA.keep _ ⟨rfl, rfl, rfl, rfl, rfl, rfl, rfl, rfl, rfl, rfl, rfl, rfl, rfl, rfl, rfl, rfl, rfl, rfl, trivial⟩, hM⟩
       · obtain ⟨e33, he33⟩ : ∃ z, xs[k]? = some z := ⟨_, List.getElem?_eq_getElem (by omega)⟩
         refine op_do hA 13 rfl rfl rfl rfl (m_loadES (o := k * 11) (cs := e33.d.cells e33.ts.length) hM 0 rfl LiU_isS_30 (cellsOf_at he33) rfl rfl) (hM.sub (.cons _ (List.nil_sublist _))) ?_
         intro a hA
         obtain ⟨e34, he34⟩ : ∃ z, xs[(k + 1)]? = some z := ⟨_, List.getElem?_eq_getElem (by omega)⟩
         refine any_one (by kernel_rfl) (op_do hA 9 rfl rfl rfl rfl (m_loadES (o := (k + 1) * 11) (cs := e34.d.cells e34.ts.length) hM 0 rfl LiU_isS_30 (cellsOf_at he34) rfl rfl) (hM.sub (.cons _ (List.nil_sublist _))) ?_)
         intro a hA
         refine any_tk (v := .pointer (some ⟨g9, k * 11, none⟩)) hA 14 rfl rfl rfl rfl hP (hM.sub (.cons _ (List.nil_sublist _))) (fun w1 hM => does_indexE (k := k) Tryz.underlying28 (by kernel_rfl) rfl rfl rfl (by omega)) ?_
         intro a hA
         refine any_one (by kernel_rfl) (g_storeRD (us := cellsOf (xs.set k e34)) (L' := (.row 30 11 (.slice (some ⟨g9, 0, none⟩) n9 c9) n9 (cellsOf (xs.set k e34)) :: T)) hA hM 15 rfl rfl rfl (m_storeE (cs := e34.d.cells e34.ts.length) rfl rfl rfl (by kernel_rfl) hM 0 rfl (by show _ + 11 ≤ _; omega) (cells_all e34)) 0 rfl (over_row (by omega) rfl) rfl ?_)
         intro w35 hM
         refine ⟨(hM.sub (.cons _ (List.nil_sublist _))), ?_⟩
         refine any_tk (v := .pointer (some ⟨g9, (k + 1) * 11, none⟩)) hA 16 rfl rfl rfl rfl hP (hM.sub (.cons _ (List.nil_sublist _))) (fun w1 hM => does_indexE (k := (k + 1)) Tryz.underlying28 (by kernel_rfl) rfl rfl rfl (by omega)) ?_
         intro a hA
         refine any_one (by kernel_rfl) (g_storeRD (us := cellsOf ((xs.set k e34).set (k + 1) e33)) (L' := (.row 30 11 (.slice (some ⟨g9, 0, none⟩) n9 c9) n9 (cellsOf ((xs.set k e34).set (k + 1) e33)) :: T)) hA hM 17 rfl rfl rfl (m_storeE (cs := e33.d.cells e33.ts.length) rfl rfl rfl (by kernel_rfl) hM 0 rfl (by show _ + 11 ≤ _; omega) (cells_all e33)) 0 rfl (over_row (by rw [List.length_set]; omega) rfl) rfl ?_)
         intro w36 hM
         rw [swp_eq he33 he34] at hM
         refine ⟨(hM.sub (.cons _ (List.nil_sublist _))), ?_⟩
         refine any_end (by kernel_rfl) ?_
         refine hK28 _ _ ?_
         refine wp_region_lit ?_
         refine seq_do hA rfl rfl rfl (does_move rfl) ?_
         intro a hA
         refine seq_do (v := .int .i64 (((k + 1 : Nat) : Int))) hA rfl rfl rfl (does_bin rfl rfl (ar_add ((in_i64 (by omega) (by omega)).trans (by omega)))) ?_
         intro a hA
         refine seq_do hA rfl rfl rfl (does_assign rfl) ?_
         intro a hA
         refine seq_end ?_
         refine hK23 _ _ _ (by omega) ⟨k + 1, (swp xs k (k + 1)), rfl, ⟨by omega, by omega, by rw [swp_len]; exact hxl, by rw [← hin, show i - 1 - k = i - 1 - (k + 1) + 1 by omega]; rfl⟩, hA.keep _ ⟨rfl, rfl, rfl, rfl, rfl, rfl, rfl, rfl, rfl, rfl, rfl, rfl, rfl, rfl, rfl, rfl, rfl, rfl, trivial⟩, hM⟩
     · have hb27' := of_decide_eq_false hb27
       refine seq_do (v := .bool false) hA rfl rfl rfl (does_bin rfl rfl (fun w => (bin_lss w).trans (by rw [hb27]))) ?_
       intro a hA
       refine seq_end ?_
       refine hK26 _ _ ?_
       refine wp_cond_false (hA.ev rfl) ?_
       refine wp_exit ?_
       refine hK20 _ _ ?_
       refine wp_ret ?_
       refine hret _ _ ?_
       refine ends (v := .tuple #[]) hA rfl .nil rfl ?_
       obtain rfl : i = j := by omega
       rw [show i - 1 - k = 0 by omega] at hin
       replace hin : xs = mvU zs la (i - 1 - la) := hin
       rw [hin, one_l H (by omega) (by omega) (by omega) (by omega) hu2 hil hjr] at hM
       exact ⟨rfl, hM⟩
 · have hb3' := ne_of_beq_false hb3
   refine seq_do (v := .bool false) hA rfl rfl rfl (does_bin rfl rfl (fun w => (bin_eql w).trans (by rw [hb3]))) ?_
   intro a hA
   refine seq_end ?_
   refine hK2 _ _ ?_
   refine wp_cond_false (hA.ev rfl) ?_
   refine wp_skip ?_
   refine hK1 _ _ ?_
   refine wp_seq_k (fun K37 hK37 => ?_)
   refine wp_seq_k (fun K38 hK38 => ?_)
   refine wp_region_lit ?_
   refine seq_do hA rfl rfl rfl (does_move rfl) ?_
   intro a hA
   refine seq_do hA rfl rfl rfl (does_move rfl) ?_
   intro a hA
   refine seq_do (v := .int .i64 (((lb - lm : Nat) : Int))) hA rfl rfl rfl (does_bin rfl rfl (ar_sub ((in_i64 (by omega) (by omega)).trans (by omega)))) ?_
   intro a hA
   rcases Bool.eq_false_or_eq_true ((((lb - lm : Nat) : Int) == 1)) with hb39 | hb39
   · have hb39' := eq_of_beq hb39
     refine seq_do (v := .bool true) hA rfl rfl rfl (does_bin rfl rfl (fun w => (bin_eql w).trans (by rw [hb39]))) ?_
     intro a hA
     refine seq_end ?_
     refine hK38 _ _ ?_
     refine wp_cond_true (hA.ev rfl) ?_
     refine wp_seq_k (fun K40 hK40 => ?_)
     refine wp_region_lit ?_
     refine seq_do hA rfl rfl rfl (does_move rfl) ?_
     intro a hA
     refine seq_do hA rfl rfl rfl (does_assign rfl) ?_
     intro a hA
     refine seq_end ?_
     refine hK40 _ _ ?_
     refine wp_seq_k (fun K41 hK41 => ?_)
     refine wp_region_lit ?_
     refine seq_do hA rfl rfl rfl (does_move rfl) ?_
     intro a hA
     refine seq_do hA rfl rfl rfl (does_assign rfl) ?_
     intro a hA
     refine seq_end ?_
     refine hK41 _ _ ?_
     refine wp_seq_k (fun K42 hK42 => ?_)
     refine wp_block ?_
     refine wp_loop_n (fun m_ a w1 => ∃ (i : Nat) (j : Nat), m_ = 1 + (j - i) ∧ (la ≤ i ∧ i ≤ j ∧ j ≤ lm ∧ (i = la ∨ ltA (ltC c) zs lm (i - 1) = false) ∧ (j = lm ∨ ltA (ltC c) zs lm j = true)) ∧ Sl a 220 [(0, .slice (some ⟨g9, 0, none⟩) n9 c9), (1, .int .i64 (((la : Nat) : Int))), (2, .int .i64 (((lm : Nat) : Int))), (3, .int .i64 (((lb : Nat) : Int))), (4, .func (.func f) #[] cs.toArray), (14, .int .i64 (((i : Nat) : Int))), (15, .int .i64 (((j : Nat) : Int))), (25, .int .i64 (((lm : Nat) : Int))), (26, .int .i64 (((la : Nat) : Int))), (27, .int .i64 (((lm - la : Nat) : Int))), (28, .bool false), (77, .int .i64 (((lb : Nat) : Int))), (78, .int .i64 (((lm : Nat) : Int))), (79, .int .i64 (((lb - lm : Nat) : Int))), (80, .bool true), (81, .int .i64 (((la : Nat) : Int))), (82, .int .i64 (((lm : Nat) : Int)))] ∧ Mg w0 w1 (.row 30 11 (.slice (some ⟨g9, 0, none⟩) n9 c9) n9 (cellsOf zs) :: T)) _ ⟨la, lm, rfl, ⟨Nat.le_refl _, by omega, Nat.le_refl _, .inl rfl, .inl rfl⟩, hA.keep _ ⟨rfl, rfl, rfl, rfl, rfl, rfl, rfl, rfl, rfl, rfl, rfl, rfl, rfl, rfl, rfl, rfl, rfl, trivial⟩, hM⟩ ?_
     clear hM hA
     rintro m_ a w43 ⟨i, j, rfl, hinv45, hA, hM⟩ K44 hK44
     obtain ⟨hi0, hi1, hi2, hil, hjr⟩ := hinv45
     refine wp_seq_k (fun K46 hK46 => ?_)
     refine wp_seq_k (fun K47 hK47 => ?_)
     refine wp_region_lit ?_
     refine seq_do hA rfl rfl rfl (does_move rfl) ?_
     intro a hA
     refine seq_do hA rfl rfl rfl (does_move rfl) ?_
     intro a hA
     rcases Bool.eq_false_or_eq_true (decide (((i : Nat) : Int) < ((j : Nat) : Int))) with hb48 | hb48
     · have hb48' := of_decide_eq_true hb48
       refine seq_do (v := .bool true) hA rfl rfl rfl (does_bin rfl rfl (fun w => (bin_lss w).trans (by rw [hb48]))) ?_
       intro a hA
       refine seq_end ?_
       refine hK47 _ _ ?_
       refine wp_cond_true (hA.ev rfl) ?_
       refine wp_skip ?_
       refine hK46 _ _ ?_
       refine wp_block ?_
       refine wp_seq_k (fun K49 hK49 => ?_)
       refine wp_region_lit ?_
       refine seq_do hA rfl rfl rfl (does_move rfl) ?_
       intro a hA
       refine seq_do hA rfl rfl rfl (does_move rfl) ?_
       intro a hA
       refine seq_do (v := .int .i64 (((i + j : Nat) : Int))) hA rfl rfl rfl (does_bin rfl rfl (ar_add ((in_i64 (by omega) (by omega)).trans (by omega)))) ?_
       intro a hA
       refine seq_do (v := .int .u64 (((i + j : Nat) : Int))) hA rfl rfl rfl (does_convert rfl (ar_conv Tryz.underlying3 Tryz.underlying109 (u64_in (by omega) (by omega)))) ?_
       intro a hA
       refine seq_do (v := .int .u64 ((((i + j) / 2 : Nat) : Int))) hA rfl rfl rfl (does_bin rfl rfl (ar_shr (n := 1) rfl rfl (show ((i + j : Nat) : Int) / 2 ^ 1 = (((i + j) / 2 : Nat) : Int) from by rw [show ((2 : Int) ^ 1) = 2 from rfl]; omega))) ?_
       intro a hA
       refine seq_do (v := .int .i64 ((((i + j) / 2 : Nat) : Int))) hA rfl rfl rfl (does_convert rfl (ar_conv Tryz.underlying109 Tryz.underlying3 (in_i64 (by omega) (by omega)))) ?_
       intro a hA
       refine seq_do hA rfl rfl rfl (does_assign rfl) ?_
       intro a hA
       refine seq_end ?_
       refine hK49 _ _ ?_
       refine wp_seq_k (fun K50 hK50 => ?_)
       refine wp_draw (S := fun w1 => Mg w0 w1 (.row 30 11 (.slice (some ⟨g9, 0, none⟩) n9 c9) n9 (cellsOf zs) :: [])) (by kernel_rfl) ?_
       replace hM := hM.drew
       refine any_tk hA 0 rfl rfl rfl rfl hP (hM.sub (.cons_cons _ (List.nil_sublist _))) (fun w1 hM => does_move rfl) ?_
       intro a hA
       refine any_tk hA 1 rfl rfl rfl rfl hP (hM.sub (.cons_cons _ (List.nil_sublist _))) (fun w1 hM => does_move rfl) ?_
       intro a hA
       refine any_tk hA 2 rfl rfl rfl rfl hP (hM.sub (.cons_cons _ (List.nil_sublist _))) (fun w1 hM => does_move rfl) ?_
       intro a hA
       refine any_tk (v := .pointer (some ⟨g9, lm * 11, none⟩)) hA 3 rfl rfl rfl rfl hP (hM.sub (.cons_cons _ (List.nil_sublist _))) (fun w1 hM => does_indexE (k := lm) Tryz.underlying28 (by kernel_rfl) rfl rfl rfl (by omega)) ?_
       intro a hA
       obtain ⟨e51, he51⟩ : ∃ z, zs[lm]? = some z := ⟨_, List.getElem?_eq_getElem (by omega)⟩
       refine any_tk hA 4 rfl rfl rfl rfl hP (hM.sub (.cons_cons _ (List.nil_sublist _))) (fun w1 hM => m_loadES (o := lm * 11) (cs := e51.d.cells e51.ts.length) hM 0 rfl LiU_isS_30 (cellsOf_at he51) rfl rfl) ?_
       intro a hA
       refine any_tk hA 5 rfl rfl rfl rfl hP (hM.sub (.cons_cons _ (List.nil_sublist _))) (fun w1 hM => does_move rfl) ?_
       intro a hA
       refine any_tk hA 6 rfl rfl rfl rfl hP (hM.sub (.cons_cons _ (List.nil_sublist _))) (fun w1 hM => does_move rfl) ?_
       intro a hA
       refine any_tk (v := .pointer (some ⟨g9, ((i + j) / 2) * 11, none⟩)) hA 7 rfl rfl rfl rfl hP (hM.sub (.cons_cons _ (List.nil_sublist _))) (fun w1 hM => does_indexE (k := ((i + j) / 2)) Tryz.underlying28 (by kernel_rfl) rfl rfl rfl (by omega)) ?_
       intro a hA
       obtain ⟨e52, he52⟩ : ∃ z, zs[((i + j) / 2)]? = some z := ⟨_, List.getElem?_eq_getElem (by omega)⟩
       refine any_tk hA 8 rfl rfl rfl rfl hP (hM.sub (.cons_cons _ (List.nil_sublist _))) (fun w1 hM => m_loadES (o := ((i + j) / 2) * 11) (cs := e52.d.cells e52.ts.length) hM 0 rfl LiU_isS_30 (cellsOf_at he52) rfl rfl) ?_
       intro a hA
       refine any_one (by kernel_rfl) (op_call hA 9 rfl rfl rfl rfl (enters_fn rfl rfl hF.inv) (hF.run e51 e52 _ (hsub _ (List.mem_of_getElem? he51)) (hsub _ (List.mem_of_getElem? he52)) (hM.sub (.cons _ (List.Sublist.refl _)))) ?_)
       rintro _ w54 ⟨rfl, hb53⟩
       replace hM := hM.call hb53
       refine ⟨_, rfl, (hM.sub (.cons_cons _ (List.nil_sublist _))), ?_⟩
       intro a hA
       rcases Bool.eq_false_or_eq_true (decide ((c e51 e52) < 0)) with hb55 | hb55
       · have hb55' := of_decide_eq_true hb55
         refine any_tk (v := .bool true) hA 10 rfl rfl rfl rfl hP (hM.sub (.cons_cons _ (List.nil_sublist _))) (fun w1 hM => does_bin rfl rfl (fun w => (bin_lss w).trans (by rw [hb55]))) ?_
         intro a hA
         refine any_tk (v := .bool false) hA 11 rfl rfl rfl rfl hP (hM.sub (.cons_cons _ (List.nil_sublist _))) (fun w1 hM => does_un rfl un_not) ?_
         intro a hA
         refine any_end (by kernel_rfl) ?_
         refine hK50 _ _ ?_
         refine wp_cond_false (hA.ev rfl) ?_
         refine wp_region_lit ?_
         refine seq_do hA rfl rfl rfl (does_move rfl) ?_
         intro a hA
         refine seq_do hA rfl rfl rfl (does_assign rfl) ?_
         intro a hA
         refine seq_end ?_
         refine hK44 _ _ _ (by omega) ⟨i, (i + j) / 2, rfl, ⟨by omega, by omega, by omega, hil, .inr (ltC_at he51 he52 hb55)⟩, hA.keep _ ⟨rfl, rfl, rfl, rfl, rfl, rfl, rfl, rfl, rfl, rfl, rfl, rfl, rfl, rfl, rfl, rfl, rfl, trivial⟩, hM⟩
       · have hb55' := of_decide_eq_false hb55
         refine any_tk (v := .bool false) hA 10 rfl rfl rfl rfl hP (hM.sub (.cons_cons _ (List.nil_sublist _))) (fun w1 hM => does_bin rfl rfl (fun w => (bin_lss w).trans (by rw [hb55]))) ?_
         intro a hA
         refine any_tk (v := .bool true) hA 11 rfl rfl rfl rfl hP (hM.sub (.cons_cons _ (List.nil_sublist _))) (fun w1 hM => does_un rfl un_not) ?_
         intro a hA
         refine any_end (by kernel_rfl) ?_
         refine hK50 _ _ ?_
         refine wp_cond_true (hA.ev rfl) ?_
         refine wp_region_lit ?_
         refine seq_do hA rfl rfl rfl (does_move rfl) ?_
         intro a hA
         refine seq_do (v := .int .i64 (((((i + j) / 2) + 1 : Nat) : Int))) hA rfl rfl rfl (does_bin rfl rfl (ar_add ((in_i64 (by omega) (by omega)).trans (by omega)))) ?_
         intro a hA
         refine seq_do hA rfl rfl rfl (does_assign rfl) ?_
         intro a hA
         refine seq_end ?_
         refine hK44 _ _ _ (by omega) ⟨(i + j) / 2 + 1, j, rfl, ⟨by omega, by omega, by omega, .inr (by rw [Nat.add_sub_cancel]; exact ltC_at he51 he52 hb55), hjr⟩, hA.keep _ ⟨rfl, rfl, rfl, rfl, rfl, rfl, rfl, rfl, rfl, rfl, rfl, rfl, rfl, rfl, rfl, rfl, rfl, trivial⟩, hM⟩
     · have hb48' := of_decide_eq_false hb48
       refine seq_do (v := .bool false) hA rfl rfl rfl (does_bin rfl rfl (fun w => (bin_lss w).trans (by rw [hb48]))) ?_
       intro a hA
       refine seq_end ?_
       refine hK47 _ _ ?_
       refine wp_cond_false (hA.ev rfl) ?_
       refine wp_exit ?_
       refine hK42 _ _ ?_
       refine wp_seq_k (fun K56 hK56 => ?_)
       refine wp_seq_k (fun K57 hK57 => ?_)
       refine wp_region_lit ?_
       refine seq_do hA rfl rfl rfl (does_move rfl) ?_
       intro a hA
       refine seq_do hA rfl rfl rfl (does_assign rfl) ?_
       intro a hA
       refine seq_end ?_
       refine hK57 _ _ ?_
       refine wp_block ?_
       refine wp_loop_n (fun m_ a w1 => ∃ (k : Nat) (xs : List Dt), m_ = 1 + k ∧ (i ≤ k ∧ k ≤ lm ∧ xs.length = n9 ∧ mvD xs k (k - i) = mvD zs lm (lm - i)) ∧ Sl a 220 [(0, .slice (some ⟨g9, 0, none⟩) n9 c9), (1, .int .i64 (((la : Nat) : Int))), (2, .int .i64 (((lm : Nat) : Int))), (3, .int .i64 (((lb : Nat) : Int))), (4, .func (.func f) #[] cs.toArray), (14, .int .i64 (((i : Nat) : Int))), (15, .int .i64 (((j : Nat) : Int))), (17, .int .i64 (((k : Nat) : Int))), (25, .int .i64 (((lm : Nat) : Int))), (26, .int .i64 (((la : Nat) : Int))), (27, .int .i64 (((lm - la : Nat) : Int))), (28, .bool false), (77, .int .i64 (((lb : Nat) : Int))), (78, .int .i64 (((lm : Nat) : Int))), (79, .int .i64 (((lb - lm : Nat) : Int))), (80, .bool true), (81, .int .i64 (((la : Nat) : Int))), (82, .int .i64 (((lm : Nat) : Int))), (83, .int .i64 (((i : Nat) : Int))), (84, .int .i64 (((j : Nat) : Int))), (85, .bool false), (107, .int .i64 (((lm : Nat) : Int)))] ∧ Mg w0 w1 (.row 30 11 (.slice (some ⟨g9, 0, none⟩) n9 c9) n9 (cellsOf xs) :: T)) _ ⟨lm, zs, rfl, ⟨by omega, Nat.le_refl _, hzl, rfl⟩, hA.keep _ ⟨rfl, rfl, rfl, rfl, rfl, rfl, rfl, rfl, rfl, rfl, rfl, rfl, rfl, rfl, rfl, rfl, rfl, rfl, rfl, rfl, rfl, rfl, trivial⟩, hM⟩ ?_
       clear hM hA
       rintro m_ a w58 ⟨k, xs, rfl, hinv60, hA, hM⟩ K59 hK59
       obtain ⟨hk0, hk1, hxl, hin⟩ := hinv60
       refine wp_seq_k (fun K61 hK61 => ?_)
       refine wp_seq_k (fun K62 hK62 => ?_)
       refine wp_region_lit ?_
       refine seq_do hA rfl rfl rfl (does_move rfl) ?_
       intro a hA
       refine seq_do hA rfl rfl rfl (does_move rfl) ?_
       intro a hA
       rcases Bool.eq_false_or_eq_true (decide (((i : Nat) : Int) < ((k : Nat) : Int))) with hb63 | hb63
       · have hb63' := of_decide_eq_true hb63
         refine seq_do (v := .bool true) hA rfl rfl rfl (does_bin rfl rfl (fun w => (bin_gtr w).trans (by rw [hb63]))) ?_
         intro a hA
         refine seq_end ?_
         refine hK62 _ _ ?_
         refine wp_cond_true (hA.ev rfl) ?_
         refine wp_skip ?_
         refine hK61 _ _ ?_
         refine wp_seq_k (fun K64 hK64 => ?_)
         refine wp_block ?_
         refine wp_draw (S := fun w1 => Mg w0 w1 ([])) (by kernel_rfl) ?_
         replace hM := hM.drew
         refine any_tk hA 0 rfl rfl rfl rfl hP (hM.sub (.cons _ (List.nil_sublist _))) (fun w1 hM => does_move rfl) ?_
         intro a hA
         refine any_tk hA 1 rfl rfl rfl rfl hP (hM.sub (.cons _ (List.nil_sublist _))) (fun w1 hM => does_move rfl) ?_
         intro a hA
         refine any_tk hA 2 rfl rfl rfl rfl hP (hM.sub (.cons _ (List.nil_sublist _))) (fun w1 hM => does_move rfl) ?_
         intro a hA
         refine any_tk hA 3 rfl rfl rfl rfl hP (hM.sub (.cons _ (List.nil_sublist _))) (fun w1 hM => does_move rfl) ?_
         intro a hA
         refine any_tk (v := .int .i64 (((k - 1 : Nat) : Int))) hA 4 rfl rfl rfl rfl hP (hM.sub (.cons _ (List.nil_sublist _))) (fun w1 hM => does_bin rfl rfl (ar_sub ((in_i64 (by omega) (by omega)).trans (by omega)))) ?_
         intro a hA
         refine any_tk hA 5 rfl rfl rfl rfl hP (hM.sub (.cons _ (List.nil_sublist _))) (fun w1 hM => does_move rfl) ?_
         intro a hA
         refine any_tk hA 6 rfl rfl rfl rfl hP (hM.sub (.cons _ (List.nil_sublist _))) (fun w1 hM => does_move rfl) ?_
         intro a hA
         refine any_tk (v := .int .i64 (((k - 1 : Nat) : Int))) hA 7 rfl rfl rfl rfl hP (hM.sub (.cons _ (List.nil_sublist _))) (fun w1 hM => does_bin rfl rfl (ar_sub ((in_i64 (by omega) (by omega)).trans (by omega)))) ?_
         intro a hA
         refine any_tk (v := .pointer (some ⟨g9, (k - 1) * 11, none⟩)) hA 8 rfl rfl rfl rfl hP (hM.sub (.cons _ (List.nil_sublist _))) (fun w1 hM => does_indexE (k := (k - 1)) Tryz.underlying28 (by kernel_rfl) rfl rfl rfl (by omega)) ?_
         intro a hA
         refine any_tk hA 10 rfl rfl rfl rfl hP (hM.sub (.cons _ (List.nil_sublist _))) (fun w1 hM => does_move rfl) ?_
         intro a hA
         refine any_tk hA 11 rfl rfl rfl rfl hP (hM.sub (.cons _ (List.nil_sublist _))) (fun w1 hM => does_move rfl) ?_
         intro a hA
         refine any_tk (v := .pointer (some ⟨g9, k * 11, none⟩)) hA 12 rfl rfl rfl rfl hP (hM.sub (.cons _ (List.nil_sublist _))) (fun w1 hM => does_indexE (k := k) Tryz.underlying28 (by kernel_rfl) rfl rfl rfl (by omega)) ?_
         intro a hA
         refine any_many (rs := [9, 13]) (by kernel_rfl) (by simp) ⟨?_, ?_, trivial⟩
         · obtain ⟨e65, he65⟩ : ∃ z, xs[(k - 1)]? = some z := ⟨_, List.getElem?_eq_getElem (by omega)⟩
           refine op_do hA 9 rfl rfl rfl rfl (m_loadES (o := (k - 1) * 11) (cs := e65.d.cells e65.ts.length) hM 0 rfl LiU_isS_30 (cellsOf_at he65) rfl rfl) (hM.sub (.cons _ (List.nil_sublist _))) ?_
           intro a hA
           obtain ⟨e66, he66⟩ : ∃ z, xs[k]? = some z := ⟨_, List.getElem?_eq_getElem (by omega)⟩
           refine any_one (by kernel_rfl) (op_do hA 13 rfl rfl rfl rfl (m_loadES (o := k * 11) (cs := e66.d.cells e66.ts.length) hM 0 rfl LiU_isS_30 (cellsOf_at he66) rfl rfl) (hM.sub (.cons _ (List.nil_sublist _))) ?_)
           intro a hA
           refine any_tk (v := .pointer (some ⟨g9, k * 11, none⟩)) hA 14 rfl rfl rfl rfl hP (hM.sub (.cons _ (List.nil_sublist _))) (fun w1 hM => does_indexE (k := k) Tryz.underlying28 (by kernel_rfl) rfl rfl rfl (by omega)) ?_
           intro a hA
           refine any_one (by kernel_rfl) (g_storeRD (us := cellsOf (xs.set k e65)) (L' := (.row 30 11 (.slice (some ⟨g9, 0, none⟩) n9 c9) n9 (cellsOf (xs.set k e65)) :: T)) hA hM 15 rfl rfl rfl (m_storeE (cs := e65.d.cells e65.ts.length) rfl rfl rfl (by kernel_rfl) hM 0 rfl (by show _ + 11 ≤ _; omega) (cells_all e65)) 0 rfl (over_row (by omega) rfl) rfl ?_)
           intro w67 hM
           refine ⟨(hM.sub (.cons _ (List.nil_sublist _))), ?_⟩
           refine any_tk (v := .pointer (some ⟨g9, (k - 1) * 11, none⟩)) hA 16 rfl rfl rfl rfl hP (hM.sub (.cons _ (List.nil_sublist _))) (fun w1 hM => does_indexE (k := (k - 1)) Tryz.underlying28 (by kernel_rfl) rfl rfl rfl (by omega)) ?_
           intro a hA
           refine any_one (by kernel_rfl) (g_storeRD (us := cellsOf ((xs.set k e65).set (k - 1) e66)) (L' := (.row 30 11 (.slice (some ⟨g9, 0, none⟩) n9 c9) n9 (cellsOf ((xs.set k e65).set (k - 1) e66)) :: T)) hA hM 17 rfl rfl rfl (m_storeE (cs := e66.d.cells e66.ts.length) rfl rfl rfl (by kernel_rfl) hM 0 rfl (by show _ + 11 ≤ _; omega) (cells_all e66)) 0 rfl (over_row (by rw [List.length_set]; omega) rfl) rfl ?_)
           intro w68 hM
           rw [swp_eq he66 he65] at hM
           refine ⟨(hM.sub (.cons _ (List.nil_sublist _))), ?_⟩
           refine any_end (by kernel_rfl) ?_
           refine hK64 _ _ ?_
           refine wp_region_lit ?_
           refine seq_do hA rfl rfl rfl (does_move rfl) ?_
           intro a hA
           refine seq_do (v := .int .i64 (((k - 1 : Nat) : Int))) hA rfl rfl rfl (does_bin rfl rfl (ar_sub ((in_i64 (by omega) (by omega)).trans (by omega)))) ?_
           intro a hA
           refine seq_do hA rfl rfl rfl (does_assign rfl) ?_
           intro a hA
           refine seq_end ?_
           refine hK59 _ _ _ (by omega) ⟨k - 1, (swp xs k (k - 1)), rfl, ⟨by omega, by omega, by rw [swp_len]; exact hxl, by rw [← hin, show k - i = k - 1 - i + 1 by omega]; rfl⟩, hA.keep _ ⟨rfl, rfl, rfl, rfl, rfl, rfl, rfl, rfl, rfl, rfl, rfl, rfl, rfl, rfl, rfl, rfl, rfl, rfl, rfl, rfl, rfl, rfl, trivial⟩, hM⟩
         · obtain ⟨e69, he69⟩ : ∃ z, xs[k]? = some z := ⟨_, List.getElem?_eq_getElem (by omega)⟩
           refine op_do hA 13 rfl rfl rfl rfl (m_loadES (o := k * 11) (cs := e69.d.cells e69.ts.length) hM 0 rfl LiU_isS_30 (cellsOf_at he69) rfl rfl) (hM.sub (.cons _ (List.nil_sublist _))) ?_
           intro a hA
           obtain ⟨e70, he70⟩ : ∃ z, xs[(k - 1)]? = some z := ⟨_, List.getElem?_eq_getElem (by omega)⟩
           refine any_one (by kernel_rfl) (op_do hA 9 rfl rfl rfl rfl (m_loadES (o := (k - 1) * 11) (cs := e70.d.cells e70.ts.length) hM 0 rfl LiU_isS_30 (cellsOf_at he70) rfl rfl) (hM.sub (.cons _ (List.nil_sublist _))) ?_)
           intro a hA
           refine any_tk (v := .pointer (some ⟨g9, k * 11, none⟩)) hA 14 rfl rfl rfl rfl hP (hM.sub (.cons _ (List.nil_sublist _))) (fun w1 hM => does_indexE (k := k) Tryz.underlying28 (by kernel_rfl) rfl rfl rfl (by omega)) ?_
           intro a hA
           refine any_one (by kernel_rfl) (g_storeRD (us := cellsOf (xs.set k e70)) (L' := (.row 30 11 (.slice (some ⟨g9, 0, none⟩) n9 c9) n9 (cellsOf (xs.set k e70)) :: T)) hA hM 15 rfl rfl rfl (m_storeE (cs := e70.d.cells e70.ts.length) rfl rfl rfl (by kernel_rfl) hM 0 rfl (by show _ + 11 ≤ _; omega) (cells_all e70)) 0 rfl (over_row (by omega) rfl) rfl ?_)
           intro w71 hM
           refine ⟨(hM.sub (.cons _ (List.nil_sublist _))), ?_⟩
           refine any_tk (v := .pointer (some ⟨g9, (k - 1) * 11, none⟩)) hA 16 rfl rfl rfl rfl hP (hM.sub (.cons _ (List.nil_sublist _))) (fun w1 hM => does_indexE (k := (k - 1)) Tryz.underlying28 (by kernel_rfl) rfl rfl rfl (by omega)) ?_
           intro a hA
           refine any_one (by kernel_rfl) (g_storeRD (us := cellsOf ((xs.set k e70).set (k - 1) e69)) (L' := (.row 30 11 (.slice (some ⟨g9, 0, none⟩) n9 c9) n9 (cellsOf ((xs.set k e70).set (k - 1) e69)) :: T)) hA hM 17 rfl rfl rfl (m_storeE (cs := e69.d.cells e69.ts.length) rfl rfl rfl (by kernel_rfl) hM 0 rfl (by show _ + 11 ≤ _; omega) (cells_all e69)) 0 rfl (over_row (by rw [List.length_set]; omega) rfl) rfl ?_)
           intro w72 hM
           rw [swp_eq he69 he70] at hM
           refine ⟨(hM.sub (.cons _ (List.nil_sublist _))), ?_⟩
           refine any_end (by kernel_rfl) ?_
           refine hK64 _ _ ?_
           refine wp_region_lit ?_
           refine seq_do hA rfl rfl rfl (does_move rfl) ?_
           intro a hA
           refine seq_do (v := .int .i64 (((k - 1 : Nat) : Int))) hA rfl rfl rfl (does_bin rfl rfl (ar_sub ((in_i64 (by omega) (by omega)).trans (by omega)))) ?_
           intro a hA
           refine seq_do hA rfl rfl rfl (does_assign rfl) ?_
           intro a hA
           refine seq_end ?_
           refine hK59 _ _ _ (by omega) ⟨k - 1, (swp xs k (k - 1)), rfl, ⟨by omega, by omega, by rw [swp_len]; exact hxl, by rw [← hin, show k - i = k - 1 - i + 1 by omega]; rfl⟩, hA.keep _ ⟨rfl, rfl, rfl, rfl, rfl, rfl, rfl, rfl, rfl, rfl, rfl, rfl, rfl, rfl, rfl, rfl, rfl, rfl, rfl, rfl, rfl, rfl, trivial⟩, hM⟩
       · have hb63' := of_decide_eq_false hb63
         refine seq_do (v := .bool false) hA rfl rfl rfl (does_bin rfl rfl (fun w => (bin_gtr w).trans (by rw [hb63]))) ?_
         intro a hA
         refine seq_end ?_
         refine hK62 _ _ ?_
         refine wp_cond_false (hA.ev rfl) ?_
         refine wp_exit ?_
         refine hK56 _ _ ?_
         refine wp_ret ?_
         refine hret _ _ ?_
         refine ends (v := .tuple #[]) hA rfl .nil rfl ?_
         obtain rfl : i = j := by omega
         rw [show k - i = 0 by omega] at hin
         replace hin : xs = mvD zs lm (lm - i) := hin
         have h9 : mvD zs lm (lm - i) = mg (ltC c) zs la lm lb := one_r H (by omega) (by omega) (by omega) (by omega) hu1 hil hjr
         rw [hin, h9] at hM
         exact ⟨rfl, hM⟩
   · have hb39' := ne_of_beq_false hb39
     refine seq_do (v := .bool false) hA rfl rfl rfl (does_bin rfl rfl (fun w => (bin_eql w).trans (by rw [hb39]))) ?_
     intro a hA
     refine seq_end ?_
     refine hK38 _ _ ?_
     refine wp_cond_false (hA.ev rfl) ?_
     refine wp_skip ?_
     refine hK37 _ _ ?_
     refine wp_seq_k (fun K73 hK73 => ?_)
     refine wp_region_lit ?_
     refine seq_do hA rfl rfl rfl (does_move rfl) ?_
     intro a hA
     refine seq_do hA rfl rfl rfl (does_move rfl) ?_
     intro a hA
     refine seq_do (v := .int .i64 (((la + lb : Nat) : Int))) hA rfl rfl rfl (does_bin rfl rfl (ar_add ((in_i64 (by omega) (by omega)).trans (by omega)))) ?_
     intro a hA
     refine seq_do (v := .int .u64 (((la + lb : Nat) : Int))) hA rfl rfl rfl (does_convert rfl (ar_conv Tryz.underlying3 Tryz.underlying109 (u64_in (by omega) (by omega)))) ?_
     intro a hA
     refine seq_do (v := .int .u64 ((((la + lb) / 2 : Nat) : Int))) hA rfl rfl rfl (does_bin rfl rfl (ar_shr (n := 1) rfl rfl (show ((la + lb : Nat) : Int) / 2 ^ 1 = (((la + lb) / 2 : Nat) : Int) from by rw [show ((2 : Int) ^ 1) = 2 from rfl]; omega))) ?_
     intro a hA
     refine seq_do (v := .int .i64 ((((la + lb) / 2 : Nat) : Int))) hA rfl rfl rfl (does_convert rfl (ar_conv Tryz.underlying109 Tryz.underlying3 (in_i64 (by omega) (by omega)))) ?_
     intro a hA
     refine seq_do hA rfl rfl rfl (does_assign rfl) ?_
     intro a hA
     refine seq_end ?_
     refine hK73 _ _ ?_
     refine wp_seq_k (fun K74 hK74 => ?_)
     refine wp_region_lit ?_
     refine seq_do hA rfl rfl rfl (does_move rfl) ?_
     intro a hA
     refine seq_do hA rfl rfl rfl (does_move rfl) ?_
     intro a hA
     refine seq_do (v := .int .i64 (((((la + lb) / 2) + lm : Nat) : Int))) hA rfl rfl rfl (does_bin rfl rfl (ar_add ((in_i64 (by omega) (by omega)).trans (by omega)))) ?_
     intro a hA
     refine seq_do hA rfl rfl rfl (does_assign rfl) ?_
     intro a hA
     refine seq_end ?_
     refine hK74 _ _ ?_
     refine wp_seq_k (fun K75 hK75 => ?_)
     refine wp_region_lit ?_
     refine seq_do hA rfl rfl rfl (does_assign rfl) ?_
     intro a hA
     refine seq_do hA rfl rfl rfl (does_assign rfl) ?_
     intro a hA
     refine seq_end ?_
     refine hK75 _ _ ?_
     refine wp_seq_k (fun K76 hK76 => ?_)
     have hJ77 : ∀ a w1, (∃ (i3 : Nat) (j3 : Nat), (la ≤ i3 ∧ i3 ≤ j3 ∧ j3 ≤ lm ∧ j3 ≤ ((la + lb) / 2) ∧ (((la + lb) / 2) + lm) ≤ i3 + lb ∧ (i3 = la ∨ (((la + lb) / 2) + lm) - i3 = lb) ∧ (j3 = lm ∨ (((la + lb) / 2) + lm) - j3 = lm)) ∧ Sl a 220 [(0, .slice (some ⟨g9, 0, none⟩) n9 c9), (1, .int .i64 (((la : Nat) : Int))), (2, .int .i64 (((lm : Nat) : Int))), (3, .int .i64 (((lb : Nat) : Int))), (4, .func (.func f) #[] cs.toArray), (18, .int .i64 ((((la + lb) / 2 : Nat) : Int))), (19, .int .i64 (((((la + lb) / 2) + lm : Nat) : Int))), (20, .int .i64 (((i3 : Nat) : Int))), (21, .int .i64 (((j3 : Nat) : Int))), (25, .int .i64 (((lm : Nat) : Int))), (26, .int .i64 (((la : Nat) : Int))), (27, .int .i64 (((lm - la : Nat) : Int))), (28, .bool false), (77, .int .i64 (((lb : Nat) : Int))), (78, .int .i64 (((lm : Nat) : Int))), (79, .int .i64 (((lb - lm : Nat) : Int))), (80, .bool false), (129, .int .i64 (((la : Nat) : Int))), (130, .int .i64 (((lb : Nat) : Int))), (131, .int .i64 (((la + lb : Nat) : Int))), (132, .int .u64 (((la + lb : Nat) : Int))), (133, .int .u64 ((((la + lb) / 2 : Nat) : Int))), (134, .int .i64 ((((la + lb) / 2 : Nat) : Int))), (135, .int .i64 ((((la + lb) / 2 : Nat) : Int))), (136, .int .i64 (((lm : Nat) : Int))), (137, .int .i64 (((((la + lb) / 2) + lm : Nat) : Int)))] ∧ Mg w0 w1 (.row 30 11 (.slice (some ⟨g9, 0, none⟩) n9 c9) n9 (cellsOf zs) :: T)) → K76 a w1 := by
       clear hA hM
       rintro a w78 ⟨i3, j3, hf79, hA, hM⟩
       obtain ⟨q1, q2, q3, q4, q5, q6, q7⟩ := hf79
       refine hK76 _ _ ?_
       refine wp_seq_k (fun K80 hK80 => ?_)
       refine wp_region_lit ?_
       refine seq_do hA rfl rfl rfl (does_move rfl) ?_
       intro a hA
       refine seq_do (v := .int .i64 ((((((la + lb) / 2) + lm) - 1 : Nat) : Int))) hA rfl rfl rfl (does_bin rfl rfl (ar_sub ((in_i64 (by omega) (by omega)).trans (by omega)))) ?_
       intro a hA
       refine seq_do hA rfl rfl rfl (does_assign rfl) ?_
       intro a hA
       refine seq_end ?_
       refine hK80 _ _ ?_
       refine wp_seq_k (fun K81 hK81 => ?_)
       refine wp_block ?_
       refine wp_loop_n (fun m_ a w1 => ∃ (i : Nat) (j : Nat), m_ = 1 + (j - i) ∧ (i3 ≤ i ∧ i ≤ j ∧ j ≤ j3 ∧ (i = la ∨ (((la + lb) / 2) + lm) - i = lb ∨ ltA (ltC c) zs ((((la + lb) / 2) + lm) - i) (i - 1) = false) ∧ (j = lm ∨ (((la + lb) / 2) + lm) - j = lm ∨ ltA (ltC c) zs ((((la + lb) / 2) + lm) - j - 1) j = true)) ∧ Sl a 220 [(0, .slice (some ⟨g9, 0, none⟩) n9 c9), (1, .int .i64 (((la : Nat) : Int))), (2, .int .i64 (((lm : Nat) : Int))), (3, .int .i64 (((lb : Nat) : Int))), (4, .func (.func f) #[] cs.toArray), (18, .int .i64 ((((la + lb) / 2 : Nat) : Int))), (19, .int .i64 (((((la + lb) / 2) + lm : Nat) : Int))), (20, .int .i64 (((i : Nat) : Int))), (21, .int .i64 (((j : Nat) : Int))), (22, .int .i64 ((((((la + lb) / 2) + lm) - 1 : Nat) : Int))), (25, .int .i64 (((lm : Nat) : Int))), (26, .int .i64 (((la : Nat) : Int))), (27, .int .i64 (((lm - la : Nat) : Int))), (28, .bool false), (77, .int .i64 (((lb : Nat) : Int))), (78, .int .i64 (((lm : Nat) : Int))), (79, .int .i64 (((lb - lm : Nat) : Int))), (80, .bool false), (129, .int .i64 (((la : Nat) : Int))), (130, .int .i64 (((lb : Nat) : Int))), (131, .int .i64 (((la + lb : Nat) : Int))), (132, .int .u64 (((la + lb : Nat) : Int))), (133, .int .u64 ((((la + lb) / 2 : Nat) : Int))), (134, .int .i64 ((((la + lb) / 2 : Nat) : Int))), (135, .int .i64 ((((la + lb) / 2 : Nat) : Int))), (136, .int .i64 (((lm : Nat) : Int))), (137, .int .i64 (((((la + lb) / 2) + lm : Nat) : Int))), (147, .int .i64 (((((la + lb) / 2) + lm : Nat) : Int))), (148, .int .i64 ((((((la + lb) / 2) + lm) - 1 : Nat) : Int)))] ∧ Mg w0 w1 (.row 30 11 (.slice (some ⟨g9, 0, none⟩) n9 c9) n9 (cellsOf zs) :: T)) _ ⟨i3, j3, rfl, ⟨Nat.le_refl _, q2, Nat.le_refl _, q6.elim .inl fun h => .inr (.inl h), q7.elim .inl fun h => .inr (.inl h)⟩, hA.keep _ ⟨rfl, rfl, rfl, rfl, rfl, rfl, rfl, rfl, rfl, rfl, rfl, rfl, rfl, rfl, rfl, rfl, rfl, rfl, rfl, rfl, rfl, rfl, rfl, rfl, rfl, rfl, rfl, rfl, rfl, trivial⟩, hM⟩ ?_
       clear hM hA
       rintro m_ a w82 ⟨i, j, rfl, hinv84, hA, hM⟩ K83 hK83
       obtain ⟨hi0, hi1, hi2, hil, hjr⟩ := hinv84
       refine wp_seq_k (fun K85 hK85 => ?_)
       refine wp_seq_k (fun K86 hK86 => ?_)
       refine wp_region_lit ?_
       refine seq_do hA rfl rfl rfl (does_move rfl) ?_
       intro a hA
       refine seq_do hA rfl rfl rfl (does_move rfl) ?_
       intro a hA
       rcases Bool.eq_false_or_eq_true (decide (((i : Nat) : Int) < ((j : Nat) : Int))) with hb87 | hb87
       · have hb87' := of_decide_eq_true hb87
         refine seq_do (v := .bool true) hA rfl rfl rfl (does_bin rfl rfl (fun w => (bin_lss w).trans (by rw [hb87]))) ?_
         intro a hA
         refine seq_end ?_
         refine hK86 _ _ ?_
         refine wp_cond_true (hA.ev rfl) ?_
         refine wp_skip ?_
         refine hK85 _ _ ?_
         refine wp_block ?_
         refine wp_seq_k (fun K88 hK88 => ?_)
         refine wp_region_lit ?_
         refine seq_do hA rfl rfl rfl (does_move rfl) ?_
         intro a hA
         refine seq_do hA rfl rfl rfl (does_move rfl) ?_
         intro a hA
         refine seq_do (v := .int .i64 (((i + j : Nat) : Int))) hA rfl rfl rfl (does_bin rfl rfl (ar_add ((in_i64 (by omega) (by omega)).trans (by omega)))) ?_
         intro a hA
         refine seq_do (v := .int .u64 (((i + j : Nat) : Int))) hA rfl rfl rfl (does_convert rfl (ar_conv Tryz.underlying3 Tryz.underlying109 (u64_in (by omega) (by omega)))) ?_
         intro a hA
         refine seq_do (v := .int .u64 ((((i + j) / 2 : Nat) : Int))) hA rfl rfl rfl (does_bin rfl rfl (ar_shr (n := 1) rfl rfl (show ((i + j : Nat) : Int) / 2 ^ 1 = (((i + j) / 2 : Nat) : Int) from by rw [show ((2 : Int) ^ 1) = 2 from rfl]; omega))) ?_
         intro a hA
         refine seq_do (v := .int .i64 ((((i + j) / 2 : Nat) : Int))) hA rfl rfl rfl (does_convert rfl (ar_conv Tryz.underlying109 Tryz.underlying3 (in_i64 (by omega) (by omega)))) ?_
         intro a hA
         refine seq_do hA rfl rfl rfl (does_assign rfl) ?_
         intro a hA
         refine seq_end ?_
         refine hK88 _ _ ?_
         refine wp_seq_k (fun K89 hK89 => ?_)
         refine wp_draw (S := fun w1 => Mg w0 w1 (.row 30 11 (.slice (some ⟨g9, 0, none⟩) n9 c9) n9 (cellsOf zs) :: [])) (by kernel_rfl) ?_
         replace hM := hM.drew
         refine any_tk hA 0 rfl rfl rfl rfl hP (hM.sub (.cons_cons _ (List.nil_sublist _))) (fun w1 hM => does_move rfl) ?_
         intro a hA
         refine any_tk hA 1 rfl rfl rfl rfl hP (hM.sub (.cons_cons _ (List.nil_sublist _))) (fun w1 hM => does_move rfl) ?_
         intro a hA
         refine any_tk hA 2 rfl rfl rfl rfl hP (hM.sub (.cons_cons _ (List.nil_sublist _))) (fun w1 hM => does_move rfl) ?_
         intro a hA
         refine any_tk hA 3 rfl rfl rfl rfl hP (hM.sub (.cons_cons _ (List.nil_sublist _))) (fun w1 hM => does_move rfl) ?_
         intro a hA
         refine any_tk (v := .int .i64 (((((((la + lb) / 2) + lm) - 1) - ((i + j) / 2) : Nat) : Int))) hA 4 rfl rfl rfl rfl hP (hM.sub (.cons_cons _ (List.nil_sublist _))) (fun w1 hM => does_bin rfl rfl (ar_sub ((in_i64 (by omega) (by omega)).trans (by omega)))) ?_
         intro a hA
         refine any_tk (v := .pointer (some ⟨g9, (((((la + lb) / 2) + lm) - 1) - ((i + j) / 2)) * 11, none⟩)) hA 5 rfl rfl rfl rfl hP (hM.sub (.cons_cons _ (List.nil_sublist _))) (fun w1 hM => does_indexE (k := (((((la + lb) / 2) + lm) - 1) - ((i + j) / 2))) Tryz.underlying28 (by kernel_rfl) rfl rfl rfl (by omega)) ?_
         intro a hA
         obtain ⟨e90, he90⟩ : ∃ z, zs[(((((la + lb) / 2) + lm) - 1) - ((i + j) / 2))]? = some z := ⟨_, List.getElem?_eq_getElem (by omega)⟩
         refine any_tk hA 6 rfl rfl rfl rfl hP (hM.sub (.cons_cons _ (List.nil_sublist _))) (fun w1 hM => m_loadES (o := (((((la + lb) / 2) + lm) - 1) - ((i + j) / 2)) * 11) (cs := e90.d.cells e90.ts.length) hM 0 rfl LiU_isS_30 (cellsOf_at he90) rfl rfl) ?_
         intro a hA
         refine any_tk hA 7 rfl rfl rfl rfl hP (hM.sub (.cons_cons _ (List.nil_sublist _))) (fun w1 hM => does_move rfl) ?_
         intro a hA
         refine any_tk hA 8 rfl rfl rfl rfl hP (hM.sub (.cons_cons _ (List.nil_sublist _))) (fun w1 hM => does_move rfl) ?_
         intro a hA
         refine any_tk (v := .pointer (some ⟨g9, ((i + j) / 2) * 11, none⟩)) hA 9 rfl rfl rfl rfl hP (hM.sub (.cons_cons _ (List.nil_sublist _))) (fun w1 hM => does_indexE (k := ((i + j) / 2)) Tryz.underlying28 (by kernel_rfl) rfl rfl rfl (by omega)) ?_
         intro a hA
         obtain ⟨e91, he91⟩ : ∃ z, zs[((i + j) / 2)]? = some z := ⟨_, List.getElem?_eq_getElem (by omega)⟩
         refine any_tk hA 10 rfl rfl rfl rfl hP (hM.sub (.cons_cons _ (List.nil_sublist _))) (fun w1 hM => m_loadES (o := ((i + j) / 2) * 11) (cs := e91.d.cells e91.ts.length) hM 0 rfl LiU_isS_30 (cellsOf_at he91) rfl rfl) ?_
         intro a hA
         refine any_one (by kernel_rfl) (op_call hA 11 rfl rfl rfl rfl (enters_fn rfl rfl hF.inv) (hF.run e90 e91 _ (hsub _ (List.mem_of_getElem? he90)) (hsub _ (List.mem_of_getElem? he91)) (hM.sub (.cons _ (List.Sublist.refl _)))) ?_)
         rintro _ w93 ⟨rfl, hb92⟩
         replace hM := hM.call hb92
         refine ⟨_, rfl, (hM.sub (.cons_cons _ (List.nil_sublist _))), ?_⟩
         intro a hA
         rcases Bool.eq_false_or_eq_true (decide ((c e90 e91) < 0)) with hb94 | hb94
         · have hb94' := of_decide_eq_true hb94
           refine any_tk (v := .bool true) hA 12 rfl rfl rfl rfl hP (hM.sub (.cons_cons _ (List.nil_sublist _))) (fun w1 hM => does_bin rfl rfl (fun w => (bin_lss w).trans (by rw [hb94]))) ?_
           intro a hA
           refine any_tk (v := .bool false) hA 13 rfl rfl rfl rfl hP (hM.sub (.cons_cons _ (List.nil_sublist _))) (fun w1 hM => does_un rfl un_not) ?_
           intro a hA
           refine any_end (by kernel_rfl) ?_
           refine hK89 _ _ ?_
           refine wp_cond_false (hA.ev rfl) ?_
           refine wp_region_lit ?_
           refine seq_do hA rfl rfl rfl (does_move rfl) ?_
           intro a hA
           refine seq_do hA rfl rfl rfl (does_assign rfl) ?_
           intro a hA
           refine seq_end ?_
           refine hK83 _ _ _ (by omega) ⟨i, (i + j) / 2, rfl, ⟨by omega, by omega, by omega, hil, .inr (.inr (by rw [show (((la + lb) / 2) + lm) - (i + j) / 2 - 1 = (((la + lb) / 2) + lm) - 1 - (i + j) / 2 by omega]; exact ltC_at he90 he91 hb94))⟩, hA.keep _ ⟨rfl, rfl, rfl, rfl, rfl, rfl, rfl, rfl, rfl, rfl, rfl, rfl, rfl, rfl, rfl, rfl, rfl, rfl, rfl, rfl, rfl, rfl, rfl, rfl, rfl, rfl, rfl, rfl, rfl, trivial⟩, hM⟩
         · have hb94' := of_decide_eq_false hb94
           refine any_tk (v := .bool false) hA 12 rfl rfl rfl rfl hP (hM.sub (.cons_cons _ (List.nil_sublist _))) (fun w1 hM => does_bin rfl rfl (fun w => (bin_lss w).trans (by rw [hb94]))) ?_
           intro a hA
           refine any_tk (v := .bool true) hA 13 rfl rfl rfl rfl hP (hM.sub (.cons_cons _ (List.nil_sublist _))) (fun w1 hM => does_un rfl un_not) ?_
           intro a hA
           refine any_end (by kernel_rfl) ?_
           refine hK89 _ _ ?_
           refine wp_cond_true (hA.ev rfl) ?_
           refine wp_region_lit ?_
           refine seq_do hA rfl rfl rfl (does_move rfl) ?_
           intro a hA
           refine seq_do (v := .int .i64 (((((i + j) / 2) + 1 : Nat) : Int))) hA rfl rfl rfl (does_bin rfl rfl (ar_add ((in_i64 (by omega) (by omega)).trans (by omega)))) ?_
           intro a hA
           refine seq_do hA rfl rfl rfl (does_assign rfl) ?_
           intro a hA
           refine seq_end ?_
           refine hK83 _ _ _ (by omega) ⟨(i + j) / 2 + 1, j, rfl, ⟨by omega, by omega, by omega, .inr (.inr (by rw [show (((la + lb) / 2) + lm) - ((i + j) / 2 + 1) = (((la + lb) / 2) + lm) - 1 - (i + j) / 2 by omega, Nat.add_sub_cancel]; exact ltC_at he90 he91 hb94)), hjr⟩, hA.keep _ ⟨rfl, rfl, rfl, rfl, rfl, rfl, rfl, rfl, rfl, rfl, rfl, rfl, rfl, rfl, rfl, rfl, rfl, rfl, rfl, rfl, rfl, rfl, rfl, rfl, rfl, rfl, rfl, rfl, rfl, trivial⟩, hM⟩
       · have hb87' := of_decide_eq_false hb87
         refine seq_do (v := .bool false) hA rfl rfl rfl (does_bin rfl rfl (fun w => (bin_lss w).trans (by rw [hb87]))) ?_
         intro a hA
         refine seq_end ?_
         refine hK86 _ _ ?_
         refine wp_cond_false (hA.ev rfl) ?_
         refine wp_exit ?_
         refine hK81 _ _ ?_
         refine wp_seq_k (fun K95 hK95 => ?_)
         refine wp_region_lit ?_
         refine seq_do hA rfl rfl rfl (does_move rfl) ?_
         intro a hA
         refine seq_do hA rfl rfl rfl (does_move rfl) ?_
         intro a hA
         refine seq_do (v := .int .i64 ((((((la + lb) / 2) + lm) - i : Nat) : Int))) hA rfl rfl rfl (does_bin rfl rfl (ar_sub ((in_i64 (by omega) (by omega)).trans (by omega)))) ?_
         intro a hA
         refine seq_do hA rfl rfl rfl (does_assign rfl) ?_
         intro a hA
         refine seq_end ?_
         refine hK95 _ _ ?_
         refine wp_seq_k (fun K96 hK96 => ?_)
         have hJ97 : ∀ a w1, (∃ (xs : List Dt), (xs = rot zs i lm ((((la + lb) / 2) + lm) - i)) ∧ Sl a 220 [(0, .slice (some ⟨g9, 0, none⟩) n9 c9), (1, .int .i64 (((la : Nat) : Int))), (2, .int .i64 (((lm : Nat) : Int))), (3, .int .i64 (((lb : Nat) : Int))), (4, .func (.func f) #[] cs.toArray), (18, .int .i64 ((((la + lb) / 2 : Nat) : Int))), (19, .int .i64 (((((la + lb) / 2) + lm : Nat) : Int))), (20, .int .i64 (((i : Nat) : Int))), (21, .int .i64 (((j : Nat) : Int))), (22, .int .i64 ((((((la + lb) / 2) + lm) - 1 : Nat) : Int))), (24, .int .i64 ((((((la + lb) / 2) + lm) - i : Nat) : Int))), (25, .int .i64 (((lm : Nat) : Int))), (26, .int .i64 (((la : Nat) : Int))), (27, .int .i64 (((lm - la : Nat) : Int))), (28, .bool false), (77, .int .i64 (((lb : Nat) : Int))), (78, .int .i64 (((lm : Nat) : Int))), (79, .int .i64 (((lb - lm : Nat) : Int))), (80, .bool false), (129, .int .i64 (((la : Nat) : Int))), (130, .int .i64 (((lb : Nat) : Int))), (131, .int .i64 (((la + lb : Nat) : Int))), (132, .int .u64 (((la + lb : Nat) : Int))), (133, .int .u64 ((((la + lb) / 2 : Nat) : Int))), (134, .int .i64 ((((la + lb) / 2 : Nat) : Int))), (135, .int .i64 ((((la + lb) / 2 : Nat) : Int))), (136, .int .i64 (((lm : Nat) : Int))), (137, .int .i64 (((((la + lb) / 2) + lm : Nat) : Int))), (147, .int .i64 (((((la + lb) / 2) + lm : Nat) : Int))), (148, .int .i64 ((((((la + lb) / 2) + lm) - 1 : Nat) : Int))), (149, .int .i64 (((i : Nat) : Int))), (150, .int .i64 (((j : Nat) : Int))), (151, .bool false), (175, .int .i64 (((((la + lb) / 2) + lm : Nat) : Int))), (176, .int .i64 (((i : Nat) : Int))), (177, .int .i64 ((((((la + lb) / 2) + lm) - i : Nat) : Int)))] ∧ Mg w0 w1 (.row 30 11 (.slice (some ⟨g9, 0, none⟩) n9 c9) n9 (cellsOf xs) :: T)) → K96 a w1 := by
           clear hA hM
           rintro a w98 ⟨xs, hf99, hA, hM⟩
           have hxe := hf99
           have hij : i = j := by omega
           rw [← hij] at hjr
           have hcut : Cut (ltC c) zs la lm lb i ((la + lb) / 2) ((((la + lb) / 2) + lm) - i) := cut_at H (by omega) (by omega) (by omega) (by omega) (by omega) (by omega) hu1 hu2 hil hjr
           have hxl : xs.length = n9 := by rw [hxe, rot_len (by omega) (by omega) (by omega)]; exact hzl
           have hxs : ∀ t ∈ xs, t ∈ ts := fun t ht => hsub t (rot_mem (by omega) (by omega) (by omega) (hxe ▸ ht))
           refine hK96 _ _ ?_
           refine wp_seq_k (fun K100 hK100 => ?_)
           have hJ101 : ∀ a w1, (∃ (ys : List Dt), (ys = mg (ltC c) xs la i ((la + lb) / 2)) ∧ Sl a 220 [(0, .slice (some ⟨g9, 0, none⟩) n9 c9), (1, .int .i64 (((la : Nat) : Int))), (2, .int .i64 (((lm : Nat) : Int))), (3, .int .i64 (((lb : Nat) : Int))), (4, .func (.func f) #[] cs.toArray), (18, .int .i64 ((((la + lb) / 2 : Nat) : Int))), (19, .int .i64 (((((la + lb) / 2) + lm : Nat) : Int))), (20, .int .i64 (((i : Nat) : Int))), (21, .int .i64 (((j : Nat) : Int))), (22, .int .i64 ((((((la + lb) / 2) + lm) - 1 : Nat) : Int))), (24, .int .i64 ((((((la + lb) / 2) + lm) - i : Nat) : Int))), (25, .int .i64 (((lm : Nat) : Int))), (26, .int .i64 (((la : Nat) : Int))), (27, .int .i64 (((lm - la : Nat) : Int))), (28, .bool false), (77, .int .i64 (((lb : Nat) : Int))), (78, .int .i64 (((lm : Nat) : Int))), (79, .int .i64 (((lb - lm : Nat) : Int))), (80, .bool false), (129, .int .i64 (((la : Nat) : Int))), (130, .int .i64 (((lb : Nat) : Int))), (131, .int .i64 (((la + lb : Nat) : Int))), (132, .int .u64 (((la + lb : Nat) : Int))), (133, .int .u64 ((((la + lb) / 2 : Nat) : Int))), (134, .int .i64 ((((la + lb) / 2 : Nat) : Int))), (135, .int .i64 ((((la + lb) / 2 : Nat) : Int))), (136, .int .i64 (((lm : Nat) : Int))), (137, .int .i64 (((((la + lb) / 2) + lm : Nat) : Int))), (147, .int .i64 (((((la + lb) / 2) + lm : Nat) : Int))), (148, .int .i64 ((((((la + lb) / 2) + lm) - 1 : Nat) : Int))), (149, .int .i64 (((i : Nat) : Int))), (150, .int .i64 (((j : Nat) : Int))), (151, .bool false), (175, .int .i64 (((((la + lb) / 2) + lm : Nat) : Int))), (176, .int .i64 (((i : Nat) : Int))), (177, .int .i64 ((((((la + lb) / 2) + lm) - i : Nat) : Int)))] ∧ Mg w0 w1 (.row 30 11 (.slice (some ⟨g9, 0, none⟩) n9 c9) n9 (cellsOf ys) :: T)) → K100 a w1 := by
             clear hA hM
             rintro a w102 ⟨ys, hf103, hA, hM⟩
             have hye := hf103
             have hyl : ys.length = n9 := by rw [hye, mg_len (by omega) (by omega) (by omega)]; exact hxl
             have hys : ∀ t ∈ ys, t ∈ ts := fun t ht => hxs t (mg_mem (by omega) (by omega) (by omega) (hye ▸ ht))
             refine hK100 _ _ ?_
             refine wp_seq_k (fun K104 hK104 => ?_)
             refine wp_region_lit ?_
             refine seq_do hA rfl rfl rfl (does_move rfl) ?_
             intro a hA
             refine seq_do hA rfl rfl rfl (does_move rfl) ?_
             intro a hA
             rcases Bool.eq_false_or_eq_true (decide ((((la + lb) / 2 : Nat) : Int) < (((((la + lb) / 2) + lm) - i : Nat) : Int))) with hb105 | hb105
             · have hb105' := of_decide_eq_true hb105
               refine seq_do (v := .bool true) hA rfl rfl rfl (does_bin rfl rfl (fun w => (bin_lss w).trans (by rw [hb105]))) ?_
               intro a hA
               refine seq_do hA rfl rfl rfl (does_move rfl) ?_
               intro a hA
               refine seq_do hA rfl rfl rfl (does_move rfl) ?_
               intro a hA
               refine seq_do hA rfl rfl rfl (does_move rfl) ?_
               intro a hA
               rcases Bool.eq_false_or_eq_true (decide ((((((la + lb) / 2) + lm) - i : Nat) : Int) < ((lb : Nat) : Int))) with hb106 | hb106
               · have hb106' := of_decide_eq_true hb106
                 refine seq_do (v := .bool true) hA rfl rfl rfl (does_bin rfl rfl (fun w => (bin_lss w).trans (by rw [hb106]))) ?_
                 intro a hA
                 refine seq_do (v := .bool true) hA rfl rfl rfl (does_pick rfl rfl rfl rfl) ?_
                 intro a hA
                 refine seq_end ?_
                 refine hK104 _ _ ?_
                 refine wp_cond_true (hA.ev rfl) ?_
                 refine wp_region_lit ?_
                 refine seq_do hA rfl rfl rfl (does_move rfl) ?_
                 intro a hA
                 refine seq_do hA rfl rfl rfl (does_move rfl) ?_
                 intro a hA
                 refine seq_do hA rfl rfl rfl (does_move rfl) ?_
                 intro a hA
                 refine seq_do hA rfl rfl rfl (does_move rfl) ?_
                 intro a hA
                 refine seq_do hA rfl rfl rfl (does_move rfl) ?_
                 intro a hA
                 refine seq_call hA rfl rfl rfl (enters_func rfl rfl (fun w => by kernel_rfl)) (ih (zs := ys) (by omega) hyl hys (by omega) (by omega) (by omega) (by rw [hye, hxe]; exact hcut.u3) (by rw [hye, hxe]; exact hcut.u4) hM) ?_
                 rintro _ w108 ⟨rfl, hM107⟩
                 replace hM : Mg w0 w108 (.row 30 11 (.slice (some ⟨g9, 0, none⟩) n9 c9) n9 (cellsOf (mg (ltC c) ys ((la + lb) / 2) ((((la + lb) / 2) + lm) - i) lb)) :: T) := hM107
                 refine ⟨_, rfl, ?_⟩
                 intro a hA
                 refine seq_end ?_
                 refine hnorm _ _ ?_
                 refine ends (v := .tuple #[]) hA rfl .nil rfl ?_
                 rw [hye, hxe, hcut.eq] at hM
                 exact ⟨rfl, hM⟩
               · have hb106' := of_decide_eq_false hb106
                 refine seq_do (v := .bool false) hA rfl rfl rfl (does_bin rfl rfl (fun w => (bin_lss w).trans (by rw [hb106]))) ?_
                 intro a hA
                 refine seq_do (v := .bool false) hA rfl rfl rfl (does_pick rfl rfl rfl rfl) ?_
                 intro a hA
                 refine seq_end ?_
                 refine hK104 _ _ ?_
                 refine wp_cond_false (hA.ev rfl) ?_
                 refine wp_skip ?_
                 refine hnorm _ _ ?_
                 refine ends (v := .tuple #[]) hA rfl .nil rfl ?_
                 have hye2 : ys = mg (ltC c) ys ((la + lb) / 2) ((((la + lb) / 2) + lm) - i) lb := (mg_none (by omega) (by omega) (by omega) (by omega)).symm
                 rw [hye2] at hM
                 rw [hye, hxe, hcut.eq] at hM
                 exact ⟨rfl, hM⟩
             · have hb105' := of_decide_eq_false hb105
               refine seq_do (v := .bool false) hA rfl rfl rfl (does_bin rfl rfl (fun w => (bin_lss w).trans (by rw [hb105]))) ?_
               intro a hA
               refine seq_do hA rfl rfl rfl (does_move rfl) ?_
               intro a hA
               refine seq_skip hA rfl rfl rfl ?_
               intro a hA
               refine seq_skip hA rfl rfl rfl ?_
               intro a hA
               refine seq_skip hA rfl rfl rfl ?_
               intro a hA
               refine seq_do (v := .bool false) hA rfl rfl rfl (does_pick rfl rfl rfl rfl) ?_
               intro a hA
               refine seq_end ?_
               refine hK104 _ _ ?_
               refine wp_cond_false (hA.ev rfl) ?_
               refine wp_skip ?_
               refine hnorm _ _ ?_
               refine ends (v := .tuple #[]) hA rfl .nil rfl ?_
               have hye2 : ys = mg (ltC c) ys ((la + lb) / 2) ((((la + lb) / 2) + lm) - i) lb := (mg_none (by omega) (by omega) (by omega) (by omega)).symm
               rw [hye2] at hM
               rw [hye, hxe, hcut.eq] at hM
               exact ⟨rfl, hM⟩
           refine wp_seq_k (fun K109 hK109 => ?_)
           refine wp_region_lit ?_
           refine seq_do hA rfl rfl rfl (does_move rfl) ?_
           intro a hA
           refine seq_do hA rfl rfl rfl (does_move rfl) ?_
           intro a hA
           rcases Bool.eq_false_or_eq_true (decide (((la : Nat) : Int) < ((i : Nat) : Int))) with hb110 | hb110
           · have hb110' := of_decide_eq_true hb110
             refine seq_do (v := .bool true) hA rfl rfl rfl (does_bin rfl rfl (fun w => (bin_lss w).trans (by rw [hb110]))) ?_
             intro a hA
             refine seq_do hA rfl rfl rfl (does_move rfl) ?_
             intro a hA
             refine seq_do hA rfl rfl rfl (does_move rfl) ?_
             intro a hA
             refine seq_do hA rfl rfl rfl (does_move rfl) ?_
             intro a hA
             rcases Bool.eq_false_or_eq_true (decide (((i : Nat) : Int) < (((la + lb) / 2 : Nat) : Int))) with hb111 | hb111
             · have hb111' := of_decide_eq_true hb111
               refine seq_do (v := .bool true) hA rfl rfl rfl (does_bin rfl rfl (fun w => (bin_lss w).trans (by rw [hb111]))) ?_
               intro a hA
               refine seq_do (v := .bool true) hA rfl rfl rfl (does_pick rfl rfl rfl rfl) ?_
               intro a hA
               refine seq_end ?_
               refine hK109 _ _ ?_
               refine wp_cond_true (hA.ev rfl) ?_
               refine wp_region_lit ?_
               refine seq_do hA rfl rfl rfl (does_move rfl) ?_
               intro a hA
               refine seq_do hA rfl rfl rfl (does_move rfl) ?_
               intro a hA
               refine seq_do hA rfl rfl rfl (does_move rfl) ?_
               intro a hA
               refine seq_do hA rfl rfl rfl (does_move rfl) ?_
               intro a hA
               refine seq_do hA rfl rfl rfl (does_move rfl) ?_
               intro a hA
               refine seq_call hA rfl rfl rfl (enters_func rfl rfl (fun w => by kernel_rfl)) (ih (zs := xs) (by omega) hxl hxs (by omega) (by omega) (by omega) (by rw [hxe]; exact hcut.u1) (by rw [hxe]; exact hcut.u2) hM) ?_
               rintro _ w113 ⟨rfl, hM112⟩
               replace hM : Mg w0 w113 (.row 30 11 (.slice (some ⟨g9, 0, none⟩) n9 c9) n9 (cellsOf (mg (ltC c) xs la i ((la + lb) / 2))) :: T) := hM112
               refine ⟨_, rfl, ?_⟩
               intro a hA
               refine seq_end ?_
               exact hJ101 _ _ ⟨(mg (ltC c) xs la i ((la + lb) / 2)), rfl, hA.keep _ ⟨rfl, rfl, rfl, rfl, rfl, rfl, rfl, rfl, rfl, rfl, rfl, rfl, rfl, rfl, rfl, rfl, rfl, rfl, rfl, rfl, rfl, rfl, rfl, rfl, rfl, rfl, rfl, rfl, rfl, rfl, rfl, rfl, rfl, rfl, rfl, rfl, trivial⟩, hM⟩
             · have hb111' := of_decide_eq_false hb111
               refine seq_do (v := .bool false) hA rfl rfl rfl (does_bin rfl rfl (fun w => (bin_lss w).trans (by rw [hb111]))) ?_
               intro a hA
               refine seq_do (v := .bool false) hA rfl rfl rfl (does_pick rfl rfl rfl rfl) ?_
               intro a hA
               refine seq_end ?_
               refine hK109 _ _ ?_
               refine wp_cond_false (hA.ev rfl) ?_
               refine wp_skip ?_
               exact hJ101 _ _ ⟨xs, (mg_none (by omega) (by omega) (by omega) (by omega)).symm, hA.keep _ ⟨rfl, rfl, rfl, rfl, rfl, rfl, rfl, rfl, rfl, rfl, rfl, rfl, rfl, rfl, rfl, rfl, rfl, rfl, rfl, rfl, rfl, rfl, rfl, rfl, rfl, rfl, rfl, rfl, rfl, rfl, rfl, rfl, rfl, rfl, rfl, rfl, trivial⟩, hM⟩
           · have hb110' := of_decide_eq_false hb110
             refine seq_do (v := .bool false) hA rfl rfl rfl (does_bin rfl rfl (fun w => (bin_lss w).trans (by rw [hb110]))) ?_
             intro a hA
             refine seq_do hA rfl rfl rfl (does_move rfl) ?_
             intro a hA
             refine seq_skip hA rfl rfl rfl ?_
             intro a hA
             refine seq_skip hA rfl rfl rfl ?_
             intro a hA
             refine seq_skip hA rfl rfl rfl ?_
             intro a hA
             refine seq_do (v := .bool false) hA rfl rfl rfl (does_pick rfl rfl rfl rfl) ?_
             intro a hA
             refine seq_end ?_
             refine hK109 _ _ ?_
             refine wp_cond_false (hA.ev rfl) ?_
             refine wp_skip ?_
             exact hJ101 _ _ ⟨xs, (mg_none (by omega) (by omega) (by omega) (by omega)).symm, hA.keep _ ⟨rfl, rfl, rfl, rfl, rfl, rfl, rfl, rfl, rfl, rfl, rfl, rfl, rfl, rfl, rfl, rfl, rfl, rfl, rfl, rfl, rfl, rfl, rfl, rfl, rfl, rfl, rfl, rfl, rfl, rfl, rfl, rfl, rfl, rfl, rfl, rfl, trivial⟩, hM⟩
         refine wp_seq_k (fun K114 hK114 => ?_)
         refine wp_region_lit ?_
         refine seq_do hA rfl rfl rfl (does_move rfl) ?_
         intro a hA
         refine seq_do hA rfl rfl rfl (does_move rfl) ?_
         intro a hA
         rcases Bool.eq_false_or_eq_true (decide (((i : Nat) : Int) < ((lm : Nat) : Int))) with hb115 | hb115
         · have hb115' := of_decide_eq_true hb115
           refine seq_do (v := .bool true) hA rfl rfl rfl (does_bin rfl rfl (fun w => (bin_lss w).trans (by rw [hb115]))) ?_
           intro a hA
           refine seq_do hA rfl rfl rfl (does_move rfl) ?_
           intro a hA
           refine seq_do hA rfl rfl rfl (does_move rfl) ?_
           intro a hA
           refine seq_do hA rfl rfl rfl (does_move rfl) ?_
           intro a hA
           rcases Bool.eq_false_or_eq_true (decide (((lm : Nat) : Int) < (((((la + lb) / 2) + lm) - i : Nat) : Int))) with hb116 | hb116
           · have hb116' := of_decide_eq_true hb116
             refine seq_do (v := .bool true) hA rfl rfl rfl (does_bin rfl rfl (fun w => (bin_lss w).trans (by rw [hb116]))) ?_
             intro a hA
             refine seq_do (v := .bool true) hA rfl rfl rfl (does_pick rfl rfl rfl rfl) ?_
             intro a hA
             refine seq_end ?_
             refine hK114 _ _ ?_
             refine wp_cond_true (hA.ev rfl) ?_
             refine wp_region_lit ?_
             refine seq_do hA rfl rfl rfl (does_move rfl) ?_
             intro a hA
             refine seq_do hA rfl rfl rfl (does_move rfl) ?_
             intro a hA
             refine seq_do hA rfl rfl rfl (does_move rfl) ?_
             intro a hA
             refine seq_do hA rfl rfl rfl (does_move rfl) ?_
             intro a hA
             refine seq_do hA rfl rfl rfl (does_move rfl) ?_
             intro a hA
             refine seq_call hA rfl rfl rfl (enters_func rfl rfl (fun w => by kernel_rfl)) (rot_any (zs := zs) hl hzl (by omega) (by omega) (by omega) hM) ?_
             rintro _ w118 ⟨rfl, hM117⟩
             replace hM : Mg w0 w118 (.row 30 11 (.slice (some ⟨g9, 0, none⟩) n9 c9) n9 (cellsOf (rot zs i lm ((((la + lb) / 2) + lm) - i))) :: T) := hM117
             refine ⟨_, rfl, ?_⟩
             intro a hA
             refine seq_end ?_
             exact hJ97 _ _ ⟨(rot zs i lm ((((la + lb) / 2) + lm) - i)), rfl, hA.keep _ ⟨rfl, rfl, rfl, rfl, rfl, rfl, rfl, rfl, rfl, rfl, rfl, rfl, rfl, rfl, rfl, rfl, rfl, rfl, rfl, rfl, rfl, rfl, rfl, rfl, rfl, rfl, rfl, rfl, rfl, rfl, rfl, rfl, rfl, rfl, rfl, rfl, trivial⟩, hM⟩
           · have hb116' := of_decide_eq_false hb116
             refine seq_do (v := .bool false) hA rfl rfl rfl (does_bin rfl rfl (fun w => (bin_lss w).trans (by rw [hb116]))) ?_
             intro a hA
             refine seq_do (v := .bool false) hA rfl rfl rfl (does_pick rfl rfl rfl rfl) ?_
             intro a hA
             refine seq_end ?_
             refine hK114 _ _ ?_
             refine wp_cond_false (hA.ev rfl) ?_
             refine wp_skip ?_
             exact hJ97 _ _ ⟨zs, (rot_none (by omega) (by omega) (by omega) (by omega)).symm, hA.keep _ ⟨rfl, rfl, rfl, rfl, rfl, rfl, rfl, rfl, rfl, rfl, rfl, rfl, rfl, rfl, rfl, rfl, rfl, rfl, rfl, rfl, rfl, rfl, rfl, rfl, rfl, rfl, rfl, rfl, rfl, rfl, rfl, rfl, rfl, rfl, rfl, rfl, trivial⟩, hM⟩
         · have hb115' := of_decide_eq_false hb115
           refine seq_do (v := .bool false) hA rfl rfl rfl (does_bin rfl rfl (fun w => (bin_lss w).trans (by rw [hb115]))) ?_
           intro a hA
           refine seq_do hA rfl rfl rfl (does_move rfl) ?_
           intro a hA
           refine seq_skip hA rfl rfl rfl ?_
           intro a hA
           refine seq_skip hA rfl rfl rfl ?_
           intro a hA
           refine seq_skip hA rfl rfl rfl ?_
           intro a hA
           refine seq_do (v := .bool false) hA rfl rfl rfl (does_pick rfl rfl rfl rfl) ?_
           intro a hA
           refine seq_end ?_
           refine hK114 _ _ ?_
           refine wp_cond_false (hA.ev rfl) ?_
           refine wp_skip ?_
           exact hJ97 _ _ ⟨zs, (rot_none (by omega) (by omega) (by omega) (by omega)).symm, hA.keep _ ⟨rfl, rfl, rfl, rfl, rfl, rfl, rfl, rfl, rfl, rfl, rfl, rfl, rfl, rfl, rfl, rfl, rfl, rfl, rfl, rfl, rfl, rfl, rfl, rfl, rfl, rfl, rfl, rfl, rfl, rfl, rfl, rfl, rfl, rfl, rfl, rfl, trivial⟩, hM⟩
     refine wp_seq_k (fun K119 hK119 => ?_)
     refine wp_region_lit ?_
     refine seq_do hA rfl rfl rfl (does_move rfl) ?_
     intro a hA
     refine seq_do hA rfl rfl rfl (does_move rfl) ?_
     intro a hA
     rcases Bool.eq_false_or_eq_true (decide ((((la + lb) / 2 : Nat) : Int) < ((lm : Nat) : Int))) with hb120 | hb120
     · have hb120' := of_decide_eq_true hb120
       refine seq_do (v := .bool true) hA rfl rfl rfl (does_bin rfl rfl (fun w => (bin_gtr w).trans (by rw [hb120]))) ?_
       intro a hA
       refine seq_end ?_
       refine hK119 _ _ ?_
       refine wp_cond_true (hA.ev rfl) ?_
       refine wp_seq_k (fun K121 hK121 => ?_)
       refine wp_region_lit ?_
       refine seq_do hA rfl rfl rfl (does_move rfl) ?_
       intro a hA
       refine seq_do hA rfl rfl rfl (does_move rfl) ?_
       intro a hA
       refine seq_do (v := .int .i64 ((((((la + lb) / 2) + lm) - lb : Nat) : Int))) hA rfl rfl rfl (does_bin rfl rfl (ar_sub ((in_i64 (by omega) (by omega)).trans (by omega)))) ?_
       intro a hA
       refine seq_do hA rfl rfl rfl (does_assign rfl) ?_
       intro a hA
       refine seq_end ?_
       refine hK121 _ _ ?_
       refine wp_region_lit ?_
       refine seq_do hA rfl rfl rfl (does_move rfl) ?_
       intro a hA
       refine seq_do hA rfl rfl rfl (does_assign rfl) ?_
       intro a hA
       refine seq_end ?_
       exact hJ77 _ _ ⟨(((la + lb) / 2) + lm) - lb, (la + lb) / 2, ⟨by omega, by omega, by omega, by omega, by omega, by omega, by omega⟩, hA.keep _ ⟨rfl, rfl, rfl, rfl, rfl, rfl, rfl, rfl, rfl, rfl, rfl, rfl, rfl, rfl, rfl, rfl, rfl, rfl, rfl, rfl, rfl, rfl, rfl, rfl, rfl, rfl, trivial⟩, hM⟩
     · have hb120' := of_decide_eq_false hb120
       refine seq_do (v := .bool false) hA rfl rfl rfl (does_bin rfl rfl (fun w => (bin_gtr w).trans (by rw [hb120]))) ?_
       intro a hA
       refine seq_end ?_
       refine hK119 _ _ ?_
       refine wp_cond_false (hA.ev rfl) ?_
       refine wp_seq_k (fun K122 hK122 => ?_)
       refine wp_region_lit ?_
       refine seq_do hA rfl rfl rfl (does_move rfl) ?_
       intro a hA
       refine seq_do hA rfl rfl rfl (does_assign rfl) ?_
       intro a hA
       refine seq_end ?_
       refine hK122 _ _ ?_
       refine wp_region_lit ?_
       refine seq_do hA rfl rfl rfl (does_move rfl) ?_
       intro a hA
       refine seq_do hA rfl rfl rfl (does_assign rfl) ?_
       intro a hA
       refine seq_end ?_
       exact hJ77 _ _ ⟨la, lm, ⟨by omega, by omega, by omega, by omega, by omega, by omega, by omega⟩, hA.keep _ ⟨rfl, rfl, rfl, rfl, rfl, rfl, rfl, rfl, rfl, rfl, rfl, rfl, rfl, rfl, rfl, rfl, rfl, rfl, rfl, rfl, rfl, rfl, rfl, rfl, rfl, rfl, trivial⟩, hM⟩
theorem sym_all {f : FuncId} {cs : List Value} {c : Dt → Dt → Int} {ts : List Dt} {w0 : World} {g9 c9 n9 : Nat} {T : List Ck} (hl : n9 ≤ 1000000000) (hF : Cmps Tryz.prog f cs w0 T ts c) (H : Swo (ltC c)) : ∀ d, SymC f cs c ts w0 g9 c9 n9 T d
  | 0 => fun hd _ _ h1 h2 => by omega
  | d + 1 => sym_succ hl hF H (sym_all hl hF H d)
theorem stable_any {w0 w : World} {g9 c9 n9 : Nat} {zs : List Dt} {T : List Ck} (hl : n9 ≤ 1000000000) (hzl : zs.length = n9) {f : FuncId} {cs : List Value} {c : Dt → Dt → Int} {ts : List Dt} (hF : Cmps Tryz.prog f cs w0 T ts c) (hsub : ∀ t ∈ zs, t ∈ ts) (H : Swo (ltC c)) (hM0 : Mg w0 w (.row 30 11 (.slice (some ⟨g9, 0, none⟩) n9 c9) n9 (cellsOf zs) :: T)) : Calls Tryz.prog 78 #[.slice (some ⟨g9, 0, none⟩) n9 c9, .int .i64 ((n9 : Nat) : Int), .func (.func f) #[] cs.toArray] w fun e w' => e = .returned (.tuple #[]) ∧ Mg w0 w' (.row 30 11 (.slice (some ⟨g9, 0, none⟩) n9 c9) n9 (cellsOf (isort (ltC c) zs)) :: T) := by
 have hM : Mg w0 w (.row 30 11 (.slice (some ⟨g9, 0, none⟩) n9 c9) n9 (cellsOf zs) :: T) := hM0
 refine walk_of (l := [(0, .slice (some ⟨g9, 0, none⟩) n9 c9), (1, .int .i64 (((n9 : Nat) : Int))), (2, .func (.func f) #[] cs.toArray)]) Tryz.func78 rfl Tryz.ntmps78 rfl rfl ?_
 intro Q hret hnorm hP a hA
 refine wp_seq_k (fun K1 hK1 => ?_)
 refine wp_region_lit ?_
 refine seq_do hA rfl rfl rfl (does_assign rfl) ?_
 intro a hA
 refine seq_end ?_
 refine hK1 _ _ ?_
 refine wp_seq_k (fun K2 hK2 => ?_)
 refine wp_region_lit ?_
 refine seq_do hA rfl rfl rfl (does_move rfl) ?_
 intro a hA
 refine seq_do hA rfl rfl rfl (does_assign rfl) ?_
 intro a hA
 refine seq_do hA rfl rfl rfl (does_assign rfl) ?_
 intro a hA
 refine seq_end ?_
 refine hK2 _ _ ?_
 refine wp_seq_k (fun K3 hK3 => ?_)
 refine wp_block ?_
 refine wp_loop_n (fun m_ a w1 => ∃ (p : Nat) (x : List Dt), m_ = 1 + (n9 - p) ∧ (p ≤ n9 ∧ x.length = p ∧ (∀ t ∈ x ++ zs.drop p, t ∈ ts) ∧ x ++ srt (ltC c) 20 (zs.drop p) = srt (ltC c) 20 zs) ∧ Sl a 63 [(0, .slice (some ⟨g9, 0, none⟩) n9 c9), (1, .int .i64 (((n9 : Nat) : Int))), (2, .func (.func f) #[] cs.toArray), (6, .int .i64 20), (7, .int .i64 (((p : Nat) : Int))), (8, .int .i64 (((p + 20 : Nat) : Int))), (10, .int .i64 20)] ∧ Mg w0 w1 (.row 30 11 (.slice (some ⟨g9, 0, none⟩) n9 c9) n9 (cellsOf (x ++ zs.drop p)) :: T)) _ ⟨0, [], rfl, ⟨Nat.zero_le _, rfl, hsub, rfl⟩, hA.keep _ ⟨rfl, rfl, rfl, rfl, rfl, rfl, rfl, trivial⟩, hM⟩ ?_
 clear hM hA
 rintro m_ a w4 ⟨p, x, rfl, hinv6, hA, hM⟩ K5 hK5
 obtain ⟨hp0, hx, hxs, hX⟩ := hinv6
 refine wp_seq_k (fun K7 hK7 => ?_)
 refine wp_seq_k (fun K8 hK8 => ?_)
 refine wp_region_lit ?_
 refine seq_do hA rfl rfl rfl (does_move rfl) ?_
 intro a hA
 refine seq_do hA rfl rfl rfl (does_move rfl) ?_
 intro a hA
 rcases Bool.eq_false_or_eq_true (decide (((p + 20 : Nat) : Int) ≤ ((n9 : Nat) : Int))) with hb9 | hb9
 · have hb9' := of_decide_eq_true hb9
   refine seq_do (v := .bool true) hA rfl rfl rfl (does_bin rfl rfl (fun w => (bin_leq w).trans (by rw [hb9]))) ?_
   intro a hA
   refine seq_end ?_
   refine hK8 _ _ ?_
   refine wp_cond_true (hA.ev rfl) ?_
   refine wp_skip ?_
   refine hK7 _ _ ?_
   refine wp_block ?_
   refine wp_seq_k (fun K10 hK10 => ?_)
   refine wp_region_lit ?_
   refine seq_do hA rfl rfl rfl (does_move rfl) ?_
   intro a hA
   refine seq_do hA rfl rfl rfl (does_move rfl) ?_
   intro a hA
   refine seq_do hA rfl rfl rfl (does_move rfl) ?_
   intro a hA
   refine seq_do hA rfl rfl rfl (does_move rfl) ?_
   intro a hA
   refine seq_call hA rfl rfl rfl (enters_func rfl rfl (fun w => by kernel_rfl)) (ins_any (zs := (x ++ zs.drop p)) hl (by rw [List.length_append, List.length_drop]; omega) hF hxs (by omega) (by omega) hM) ?_
   rintro _ w12 ⟨rfl, hM11⟩
   replace hM : Mg w0 w12 (.row 30 11 (.slice (some ⟨g9, 0, none⟩) n9 c9) n9 (cellsOf (insO (ltC c) p ((p + 20) - (p + 1)) (p + 1) (x ++ zs.drop p))) :: T) := hM11
   refine ⟨_, rfl, ?_⟩
   intro a hA
   refine seq_end ?_
   refine hK10 _ _ ?_
   refine wp_seq_k (fun K13 hK13 => ?_)
   refine wp_region_lit ?_
   refine seq_do hA rfl rfl rfl (does_move rfl) ?_
   intro a hA
   refine seq_do hA rfl rfl rfl (does_assign rfl) ?_
   intro a hA
   refine seq_end ?_
   refine hK13 _ _ ?_
   refine wp_region_lit ?_
   refine seq_do hA rfl rfl rfl (does_move rfl) ?_
   intro a hA
   refine seq_do hA rfl rfl rfl (does_move rfl) ?_
   intro a hA
   refine seq_do (v := .int .i64 ((((p + 20) + 20 : Nat) : Int))) hA rfl rfl rfl (does_bin rfl rfl (ar_add ((in_i64 (by omega) (by omega)).trans (by omega)))) ?_
   intro a hA
   refine seq_do hA rfl rfl rfl (does_assign rfl) ?_
   intro a hA
   refine seq_end ?_
   obtain ⟨y1, hy1, hy2, hy3⟩ := srt_ins H (by decide) hx (by omega) hX
   have hys : ∀ t ∈ y1 ++ zs.drop (p + 20), t ∈ ts := fun t ht => hxs t (insO_mem _ _ _ (hy2 ▸ ht))
   rw [hy2] at hM
   refine hK5 _ _ _ (by omega) ⟨p + 20, y1, rfl, ⟨by omega, hy1, hys, hy3⟩, hA.keep _ ⟨rfl, rfl, rfl, rfl, rfl, rfl, rfl, trivial⟩, hM⟩
 · have hb9' := of_decide_eq_false hb9
   refine seq_do (v := .bool false) hA rfl rfl rfl (does_bin rfl rfl (fun w => (bin_leq w).trans (by rw [hb9]))) ?_
   intro a hA
   refine seq_end ?_
   refine hK8 _ _ ?_
   refine wp_cond_false (hA.ev rfl) ?_
   refine wp_exit ?_
   refine hK3 _ _ ?_
   refine wp_seq_k (fun K14 hK14 => ?_)
   refine wp_region_lit ?_
   refine seq_do hA rfl rfl rfl (does_move rfl) ?_
   intro a hA
   refine seq_do hA rfl rfl rfl (does_move rfl) ?_
   intro a hA
   refine seq_do hA rfl rfl rfl (does_move rfl) ?_
   intro a hA
   refine seq_do hA rfl rfl rfl (does_move rfl) ?_
   intro a hA
   refine seq_call hA rfl rfl rfl (enters_func rfl rfl (fun w => by kernel_rfl)) (ins_any (zs := (x ++ zs.drop p)) hl (by rw [List.length_append, List.length_drop]; omega) hF hxs (by omega) (by omega) hM) ?_
   rintro _ w16 ⟨rfl, hM15⟩
   replace hM : Mg w0 w16 (.row 30 11 (.slice (some ⟨g9, 0, none⟩) n9 c9) n9 (cellsOf (insO (ltC c) p (n9 - (p + 1)) (p + 1) (x ++ zs.drop p))) :: T) := hM15
   refine ⟨_, rfl, ?_⟩
   intro a hA
   refine seq_end ?_
   refine hK14 _ _ ?_
   refine wp_block ?_
   have h9 := srt_last H hx (by omega) (by omega) hX
   rw [hzl] at h9
   rw [h9] at hM
   refine wp_loop_n (fun m_ a w1 => ∃ (q : Nat), m_ = 1 + (n9 - q) ∧ (0 < q ∧ q ≤ 2 * n9 + 20) ∧ Sl a 63 [(0, .slice (some ⟨g9, 0, none⟩) n9 c9), (1, .int .i64 (((n9 : Nat) : Int))), (2, .func (.func f) #[] cs.toArray), (6, .int .i64 (((q : Nat) : Int))), (10, .int .i64 20), (11, .int .i64 (((p + 20 : Nat) : Int))), (12, .int .i64 (((n9 : Nat) : Int))), (13, .bool false), (23, .slice (some ⟨g9, 0, none⟩) n9 c9), (24, .int .i64 (((p : Nat) : Int))), (25, .int .i64 (((n9 : Nat) : Int))), (26, .func (.func f) #[] cs.toArray), (27, .tuple #[])] ∧ Mg w0 w1 (.row 30 11 (.slice (some ⟨g9, 0, none⟩) n9 c9) n9 (cellsOf (srt (ltC c) q zs)) :: T)) _ ⟨20, rfl, ⟨by decide, by omega⟩, hA.keep _ ⟨rfl, rfl, rfl, rfl, rfl, rfl, rfl, rfl, rfl, rfl, rfl, rfl, rfl, trivial⟩, hM⟩ ?_
   clear hM hA
   rintro m_ a w17 ⟨q, rfl, hinv19, hA, hM⟩ K18 hK18
   obtain ⟨hq0, hq1⟩ := hinv19
   refine wp_seq_k (fun K20 hK20 => ?_)
   refine wp_seq_k (fun K21 hK21 => ?_)
   refine wp_region_lit ?_
   refine seq_do hA rfl rfl rfl (does_move rfl) ?_
   intro a hA
   refine seq_do hA rfl rfl rfl (does_move rfl) ?_
   intro a hA
   rcases Bool.eq_false_or_eq_true (decide (((q : Nat) : Int) < ((n9 : Nat) : Int))) with hb22 | hb22
   · have hb22' := of_decide_eq_true hb22
     refine seq_do (v := .bool true) hA rfl rfl rfl (does_bin rfl rfl (fun w => (bin_lss w).trans (by rw [hb22]))) ?_
     intro a hA
     refine seq_end ?_
     refine hK21 _ _ ?_
     refine wp_cond_true (hA.ev rfl) ?_
     refine wp_skip ?_
     refine hK20 _ _ ?_
     refine wp_block ?_
     refine wp_seq_k (fun K23 hK23 => ?_)
     refine wp_region_lit ?_
     refine seq_do hA rfl rfl rfl (does_move rfl) ?_
     intro a hA
     refine seq_do (v := .int .i64 (((0 + 2 * q : Nat) : Int))) hA rfl rfl rfl (does_bin rfl rfl (ar_mul9 ((in_i64 (by omega) (by omega)).trans (by omega)))) ?_
     intro a hA
     refine seq_do hA rfl rfl rfl (does_assign rfl) ?_
     intro a hA
     refine seq_do hA rfl rfl rfl (does_assign rfl) ?_
     intro a hA
     refine seq_end ?_
     refine hK23 _ _ ?_
     refine wp_seq_k (fun K24 hK24 => ?_)
     refine wp_block ?_
     refine wp_loop_n (fun m_ a w1 => ∃ (p2 : Nat) (x2 : List Dt), m_ = 1 + (n9 - p2) ∧ (p2 ≤ n9 ∧ x2.length = p2 ∧ (∀ t ∈ x2 ++ srt (ltC c) q (zs.drop p2), t ∈ ts) ∧ x2 ++ srt (ltC c) (2 * q) (zs.drop p2) = srt (ltC c) (2 * q) zs) ∧ Sl a 63 [(0, .slice (some ⟨g9, 0, none⟩) n9 c9), (1, .int .i64 (((n9 : Nat) : Int))), (2, .func (.func f) #[] cs.toArray), (6, .int .i64 (((q : Nat) : Int))), (7, .int .i64 (((p2 : Nat) : Int))), (8, .int .i64 (((p2 + 2 * q : Nat) : Int))), (10, .int .i64 20), (11, .int .i64 (((p + 20 : Nat) : Int))), (12, .int .i64 (((n9 : Nat) : Int))), (13, .bool false), (23, .slice (some ⟨g9, 0, none⟩) n9 c9), (24, .int .i64 (((p : Nat) : Int))), (25, .int .i64 (((n9 : Nat) : Int))), (26, .func (.func f) #[] cs.toArray), (27, .tuple #[]), (28, .int .i64 (((q : Nat) : Int))), (29, .int .i64 (((n9 : Nat) : Int))), (30, .bool true), (31, .int .i64 (((q : Nat) : Int))), (32, .int .i64 (((0 + 2 * q : Nat) : Int)))] ∧ Mg w0 w1 (.row 30 11 (.slice (some ⟨g9, 0, none⟩) n9 c9) n9 (cellsOf (x2 ++ srt (ltC c) q (zs.drop p2))) :: T)) _ ⟨0, [], rfl, ⟨Nat.zero_le _, rfl, fun t ht => hsub t ((srt_perm _ zs (Nat.le_refl _)).mem_iff.1 ht), rfl⟩, hA.keep _ ⟨rfl, rfl, rfl, rfl, rfl, rfl, rfl, rfl, rfl, rfl, rfl, rfl, rfl, rfl, rfl, rfl, rfl, rfl, rfl, rfl, trivial⟩, hM⟩ ?_
     clear hM hA
     rintro m_ a w25 ⟨p2, x2, rfl, hinv27, hA, hM⟩ K26 hK26
     obtain ⟨hp2, hx2, hx2s, hX2⟩ := hinv27
     refine wp_seq_k (fun K28 hK28 => ?_)
     refine wp_seq_k (fun K29 hK29 => ?_)
     refine wp_region_lit ?_
     refine seq_do hA rfl rfl rfl (does_move rfl) ?_
     intro a hA
     refine seq_do hA rfl rfl rfl (does_move rfl) ?_
     intro a hA
     rcases Bool.eq_false_or_eq_true (decide (((p2 + 2 * q : Nat) : Int) ≤ ((n9 : Nat) : Int))) with hb30 | hb30
     · have hb30' := of_decide_eq_true hb30
       refine seq_do (v := .bool true) hA rfl rfl rfl (does_bin rfl rfl (fun w => (bin_leq w).trans (by rw [hb30]))) ?_
       intro a hA
       refine seq_end ?_
       refine hK29 _ _ ?_
       refine wp_cond_true (hA.ev rfl) ?_
       refine wp_skip ?_
       refine hK28 _ _ ?_
       refine wp_block ?_
       refine wp_seq_k (fun K31 hK31 => ?_)
       refine wp_region_lit ?_
       refine seq_do hA rfl rfl rfl (does_move rfl) ?_
       intro a hA
       refine seq_do hA rfl rfl rfl (does_move rfl) ?_
       intro a hA
       refine seq_do hA rfl rfl rfl (does_move rfl) ?_
       intro a hA
       refine seq_do hA rfl rfl rfl (does_move rfl) ?_
       intro a hA
       refine seq_do (v := .int .i64 (((p2 + q : Nat) : Int))) hA rfl rfl rfl (does_bin rfl rfl (ar_add ((in_i64 (by omega) (by omega)).trans (by omega)))) ?_
       intro a hA
       refine seq_do hA rfl rfl rfl (does_move rfl) ?_
       intro a hA
       refine seq_do hA rfl rfl rfl (does_move rfl) ?_
       intro a hA
       obtain ⟨hv1, hv2, y2, hy1, hy2, hy3⟩ := srt_two H hq0 hx2 (by omega) hX2
       refine seq_call hA rfl rfl rfl (enters_func rfl rfl (fun w => by kernel_rfl)) (sym_all hl hF H _ (zs := (x2 ++ srt (ltC c) q (zs.drop p2))) (Nat.le_refl _) (by rw [List.length_append, srt_len, List.length_drop]; omega) hx2s (by omega) (by omega) (by omega) hv1 hv2 hM) ?_
       rintro _ w33 ⟨rfl, hM32⟩
       replace hM : Mg w0 w33 (.row 30 11 (.slice (some ⟨g9, 0, none⟩) n9 c9) n9 (cellsOf (mg (ltC c) (x2 ++ srt (ltC c) q (zs.drop p2)) p2 (p2 + q) (p2 + 2 * q))) :: T) := hM32
       refine ⟨_, rfl, ?_⟩
       intro a hA
       refine seq_end ?_
       refine hK31 _ _ ?_
       refine wp_seq_k (fun K34 hK34 => ?_)
       refine wp_region_lit ?_
       refine seq_do hA rfl rfl rfl (does_move rfl) ?_
       intro a hA
       refine seq_do hA rfl rfl rfl (does_assign rfl) ?_
       intro a hA
       refine seq_end ?_
       refine hK34 _ _ ?_
       refine wp_region_lit ?_
       refine seq_do hA rfl rfl rfl (does_move rfl) ?_
       intro a hA
       refine seq_do hA rfl rfl rfl (does_move rfl) ?_
       intro a hA
       refine seq_do (v := .int .i64 (((2 * q : Nat) : Int))) hA rfl rfl rfl (does_bin rfl rfl (ar_mul9 ((in_i64 (by omega) (by omega)).trans (by omega)))) ?_
       intro a hA
       refine seq_do (v := .int .i64 ((((p2 + 2 * q) + (2 * q) : Nat) : Int))) hA rfl rfl rfl (does_bin rfl rfl (ar_add ((in_i64 (by omega) (by omega)).trans (by omega)))) ?_
       intro a hA
       refine seq_do hA rfl rfl rfl (does_assign rfl) ?_
       intro a hA
       refine seq_end ?_
       have hy2s : ∀ t ∈ y2 ++ srt (ltC c) q (zs.drop (p2 + 2 * q)), t ∈ ts := fun t ht => hx2s t (mg_mem (by omega) (by omega) (by rw [List.length_append, srt_len, List.length_drop]; omega) (hy2 ▸ ht))
       rw [hy2] at hM
       refine hK26 _ _ _ (by omega) ⟨p2 + 2 * q, y2, rfl, ⟨by omega, hy1, hy2s, hy3⟩, hA.keep _ ⟨rfl, rfl, rfl, rfl, rfl, rfl, rfl, rfl, rfl, rfl, rfl, rfl, rfl, rfl, rfl, rfl, rfl, rfl, rfl, rfl, trivial⟩, hM⟩
     · have hb30' := of_decide_eq_false hb30
       refine seq_do (v := .bool false) hA rfl rfl rfl (does_bin rfl rfl (fun w => (bin_leq w).trans (by rw [hb30]))) ?_
       intro a hA
       refine seq_end ?_
       refine hK29 _ _ ?_
       refine wp_cond_false (hA.ev rfl) ?_
       refine wp_exit ?_
       refine hK24 _ _ ?_
       refine wp_seq_k (fun K35 hK35 => ?_)
       refine wp_seq_k (fun K36 hK36 => ?_)
       refine wp_region_lit ?_
       refine seq_do hA rfl rfl rfl (does_move rfl) ?_
       intro a hA
       refine seq_do hA rfl rfl rfl (does_move rfl) ?_
       intro a hA
       refine seq_do (v := .int .i64 (((p2 + q : Nat) : Int))) hA rfl rfl rfl (does_bin rfl rfl (ar_add ((in_i64 (by omega) (by omega)).trans (by omega)))) ?_
       intro a hA
       refine seq_do hA rfl rfl rfl (does_assign rfl) ?_
       intro a hA
       refine seq_end ?_
       refine hK36 _ _ ?_
       refine wp_seq_k (fun K37 hK37 => ?_)
       refine wp_region_lit ?_
       refine seq_do hA rfl rfl rfl (does_move rfl) ?_
       intro a hA
       refine seq_do hA rfl rfl rfl (does_move rfl) ?_
       intro a hA
       rcases Bool.eq_false_or_eq_true (decide (((p2 + q : Nat) : Int) < ((n9 : Nat) : Int))) with hb38 | hb38
       · have hb38' := of_decide_eq_true hb38
         refine seq_do (v := .bool true) hA rfl rfl rfl (does_bin rfl rfl (fun w => (bin_lss w).trans (by rw [hb38]))) ?_
         intro a hA
         refine seq_end ?_
         refine hK37 _ _ ?_
         refine wp_cond_true (hA.ev rfl) ?_
         refine wp_region_lit ?_
         refine seq_do hA rfl rfl rfl (does_move rfl) ?_
         intro a hA
         refine seq_do hA rfl rfl rfl (does_move rfl) ?_
         intro a hA
         refine seq_do hA rfl rfl rfl (does_move rfl) ?_
         intro a hA
         refine seq_do hA rfl rfl rfl (does_move rfl) ?_
         intro a hA
         refine seq_do hA rfl rfl rfl (does_move rfl) ?_
         intro a hA
         have hr := srt_rest H hq0 hx2 (by omega) (by omega) hX2
         rw [hzl] at hr
         refine seq_call hA rfl rfl rfl (enters_func rfl rfl (fun w => by kernel_rfl)) (sym_all hl hF H _ (zs := (x2 ++ srt (ltC c) q (zs.drop p2))) (Nat.le_refl _) (by rw [List.length_append, srt_len, List.length_drop]; omega) hx2s (by omega) (by omega) (by omega) hr.1 hr.2.1 hM) ?_
         rintro _ w40 ⟨rfl, hM39⟩
         replace hM : Mg w0 w40 (.row 30 11 (.slice (some ⟨g9, 0, none⟩) n9 c9) n9 (cellsOf (mg (ltC c) (x2 ++ srt (ltC c) q (zs.drop p2)) p2 (p2 + q) n9)) :: T) := hM39
         refine ⟨_, rfl, ?_⟩
         intro a hA
         refine seq_end ?_
         refine hK35 _ _ ?_
         refine wp_region_lit ?_
         refine seq_do hA rfl rfl rfl (does_move rfl) ?_
         intro a hA
         refine seq_do (v := .int .i64 (((2 * q : Nat) : Int))) hA rfl rfl rfl (does_bin rfl rfl (ar_mul9 ((in_i64 (by omega) (by omega)).trans (by omega)))) ?_
         intro a hA
         refine seq_do hA rfl rfl rfl (does_assign rfl) ?_
         intro a hA
         refine seq_end ?_
         rw [hr.2.2] at hM
         refine hK18 _ _ _ (by omega) ⟨2 * q, rfl, ⟨by omega, by omega⟩, hA.keep _ ⟨rfl, rfl, rfl, rfl, rfl, rfl, rfl, rfl, rfl, rfl, rfl, rfl, rfl, trivial⟩, hM⟩
       · have hb38' := of_decide_eq_false hb38
         refine seq_do (v := .bool false) hA rfl rfl rfl (does_bin rfl rfl (fun w => (bin_lss w).trans (by rw [hb38]))) ?_
         intro a hA
         refine seq_end ?_
         refine hK37 _ _ ?_
         refine wp_cond_false (hA.ev rfl) ?_
         refine wp_skip ?_
         refine hK35 _ _ ?_
         refine wp_region_lit ?_
         refine seq_do hA rfl rfl rfl (does_move rfl) ?_
         intro a hA
         refine seq_do (v := .int .i64 (((2 * q : Nat) : Int))) hA rfl rfl rfl (does_bin rfl rfl (ar_mul9 ((in_i64 (by omega) (by omega)).trans (by omega)))) ?_
         intro a hA
         refine seq_do hA rfl rfl rfl (does_assign rfl) ?_
         intro a hA
         refine seq_end ?_
         rw [srt_none (by omega) hX2] at hM
         refine hK18 _ _ _ (by omega) ⟨2 * q, rfl, ⟨by omega, by omega⟩, hA.keep _ ⟨rfl, rfl, rfl, rfl, rfl, rfl, rfl, rfl, rfl, rfl, rfl, rfl, rfl, trivial⟩, hM⟩
   · have hb22' := of_decide_eq_false hb22
     refine seq_do (v := .bool false) hA rfl rfl rfl (does_bin rfl rfl (fun w => (bin_lss w).trans (by rw [hb22]))) ?_
     intro a hA
     refine seq_end ?_
     refine hK21 _ _ ?_
     refine wp_cond_false (hA.ev rfl) ?_
     refine wp_exit ?_
     refine hnorm _ _ ?_
     refine ends (v := .tuple #[]) hA rfl .nil rfl ?_
     rw [srt_end (by omega)] at hM
     exact ⟨rfl, hM⟩
theorem sortS_cons {w0 w : World} {g9 c9 n9 : Nat} {zs : List Dt} {T : List Ck} (hl : n9 ≤ 1000000000) (hzl : zs.length = n9) {f : FuncId} {cs : List Value} {c : Dt → Dt → Int} {ts : List Dt} (hF : Cmps Tryz.prog f cs w0 T ts c) (hsub : ∀ t ∈ zs, t ∈ ts) (H : Swo (ltC c)) (hM0 : Mg w0 w (.row 30 11 (.slice (some ⟨g9, 0, none⟩) n9 c9) n9 (cellsOf zs) :: T)) : Calls Tryz.prog 60 #[.slice (some ⟨g9, 0, none⟩) n9 c9, .func (.func f) #[] cs.toArray] w fun e w' => e = .returned (.tuple #[]) ∧ Mg w0 w' (.row 30 11 (.slice (some ⟨g9, 0, none⟩) n9 c9) n9 (cellsOf (isort (ltC c) zs)) :: T) := by
 have hM : Mg w0 w (.row 30 11 (.slice (some ⟨g9, 0, none⟩) n9 c9) n9 (cellsOf zs) :: T) := hM0
 refine walk_of (l := [(0, .slice (some ⟨g9, 0, none⟩) n9 c9), (1, .func (.func f) #[] cs.toArray)]) Tryz.func60 rfl Tryz.ntmps60 rfl rfl ?_
 intro Q hret hnorm hP a hA
 refine wp_region_lit ?_
 refine seq_do hA rfl rfl rfl (does_move rfl) ?_
 intro a hA
 refine seq_do hA rfl rfl rfl (does_move rfl) ?_
 intro a hA
 refine seq_do (v := .int .i64 (((n9 : Nat) : Int))) hA rfl rfl rfl (does_len Tryz.underlying28 rfl) ?_
 intro a hA
 refine seq_do hA rfl rfl rfl (does_move rfl) ?_
 intro a hA
 refine seq_call hA rfl rfl rfl (enters_func rfl rfl (fun w => by kernel_rfl)) (stable_any hl hzl hF hsub H hM) ?_
 rintro _ w2 ⟨rfl, hM1⟩
 replace hM : Mg w0 w2 (.row 30 11 (.slice (some ⟨g9, 0, none⟩) n9 c9) n9 (cellsOf (isort (ltC c) zs)) :: T) := hM1
 refine ⟨_, rfl, ?_⟩
 intro a hA
 refine seq_end ?_
 refine hnorm _ _ ?_
 refine ends (v := .tuple #[]) hA rfl .nil rfl ?_
 exact ⟨rfl, hM⟩
theorem ins_nil {w : World} {so9 : Option Addr} {c9 : Nat} {fv : Value} : Calls Tryz.prog 96 #[.slice so9 0 c9, .int .i64 0, .int .i64 0, fv] w fun e w' => e = .returned (.tuple #[]) ∧ Below w.heap.size w w' := by
 have hM : Mg w w ([]) := Mg.start w
 refine walk_of (l := [(0, .slice so9 0 c9), (1, .int .i64 0), (2, .int .i64 0), (3, fv)]) Tryz.func96 rfl Tryz.ntmps96 rfl rfl ?_
 intro Q hret hnorm hP a hA
 refine wp_seq_k (fun K1 hK1 => ?_)
 refine wp_region_lit ?_
 refine seq_do hA rfl rfl rfl (does_move rfl) ?_
 intro a hA
 refine seq_do (v := .int .i64 1) hA rfl rfl rfl (does_bin rfl rfl (fun w => by kernel_rfl)) ?_
 intro a hA
 refine seq_do hA rfl rfl rfl (does_assign rfl) ?_
 intro a hA
 refine seq_end ?_
 refine hK1 _ _ ?_
 refine wp_block ?_
 refine wp_loop_rounds 12 ?_
 refine rounds_k (fun K2 hK2 => ?_)
 refine wp_seq_k (fun K3 hK3 => ?_)
 refine wp_seq_k (fun K4 hK4 => ?_)
 refine wp_region_lit ?_
 refine seq_do hA rfl rfl rfl (does_move rfl) ?_
 intro a hA
 refine seq_do hA rfl rfl rfl (does_move rfl) ?_
 intro a hA
 refine seq_do (v := .bool false) hA rfl rfl rfl (does_bin rfl rfl (fun w => by kernel_rfl)) ?_
 intro a hA
 refine seq_end ?_
 refine hK4 _ _ ?_
 refine wp_cond_false (hA.ev rfl) ?_
 refine wp_exit ?_
 refine hnorm _ _ ?_
 refine ends (v := .tuple #[]) hA rfl .nil rfl ?_
 exact ⟨rfl, hM.bel⟩
theorem stable_nil {w : World} {so9 : Option Addr} {c9 : Nat} {fv : Value} : Calls Tryz.prog 78 #[.slice so9 0 c9, .int .i64 0, fv] w fun e w' => e = .returned (.tuple #[]) ∧ Below w.heap.size w w' := by
 have hM : Mg w w ([]) := Mg.start w
 refine walk_of (l := [(0, .slice so9 0 c9), (1, .int .i64 0), (2, fv)]) Tryz.func78 rfl Tryz.ntmps78 rfl rfl ?_
 intro Q hret hnorm hP a hA
 refine wp_seq_k (fun K1 hK1 => ?_)
 refine wp_region_lit ?_
 refine seq_do hA rfl rfl rfl (does_assign rfl) ?_
 intro a hA
 refine seq_end ?_
 refine hK1 _ _ ?_
 refine wp_seq_k (fun K2 hK2 => ?_)
 refine wp_region_lit ?_
 refine seq_do hA rfl rfl rfl (does_move rfl) ?_
 intro a hA
 refine seq_do hA rfl rfl rfl (does_assign rfl) ?_
 intro a hA
 refine seq_do hA rfl rfl rfl (does_assign rfl) ?_
 intro a hA
 refine seq_end ?_
 refine hK2 _ _ ?_
 refine wp_seq_k (fun K3 hK3 => ?_)
 refine wp_block ?_
 refine wp_loop_rounds 12 ?_
 refine rounds_k (fun K4 hK4 => ?_)
 refine wp_seq_k (fun K5 hK5 => ?_)
 refine wp_seq_k (fun K6 hK6 => ?_)
 refine wp_region_lit ?_
 refine seq_do hA rfl rfl rfl (does_move rfl) ?_
 intro a hA
 refine seq_do hA rfl rfl rfl (does_move rfl) ?_
 intro a hA
 refine seq_do (v := .bool false) hA rfl rfl rfl (does_bin rfl rfl (fun w => by kernel_rfl)) ?_
 intro a hA
 refine seq_end ?_
 refine hK6 _ _ ?_
 refine wp_cond_false (hA.ev rfl) ?_
 refine wp_exit ?_
 refine hK3 _ _ ?_
 refine wp_seq_k (fun K7 hK7 => ?_)
 refine wp_region_lit ?_
 refine seq_do hA rfl rfl rfl (does_move rfl) ?_
 intro a hA
 refine seq_do hA rfl rfl rfl (does_move rfl) ?_
 intro a hA
 refine seq_do hA rfl rfl rfl (does_move rfl) ?_
 intro a hA
 refine seq_do hA rfl rfl rfl (does_move rfl) ?_
 intro a hA
 refine seq_call hA rfl rfl rfl (enters_func rfl rfl (fun w => by kernel_rfl)) (ins_nil) ?_
 rintro _ w9 ⟨rfl, hb8⟩
 replace hM := hM.call hb8
 refine ⟨_, rfl, ?_⟩
 intro a hA
 refine seq_end ?_
 refine hK7 _ _ ?_
 refine wp_block ?_
 refine wp_loop_rounds 12 ?_
 refine rounds_k (fun K10 hK10 => ?_)
 refine wp_seq_k (fun K11 hK11 => ?_)
 refine wp_seq_k (fun K12 hK12 => ?_)
 refine wp_region_lit ?_
 refine seq_do hA rfl rfl rfl (does_move rfl) ?_
 intro a hA
 refine seq_do hA rfl rfl rfl (does_move rfl) ?_
 intro a hA
 refine seq_do (v := .bool false) hA rfl rfl rfl (does_bin rfl rfl (fun w => by kernel_rfl)) ?_
 intro a hA
 refine seq_end ?_
 refine hK12 _ _ ?_
 refine wp_cond_false (hA.ev rfl) ?_
 refine wp_exit ?_
 refine hnorm _ _ ?_
 refine ends (v := .tuple #[]) hA rfl .nil rfl ?_
 exact ⟨rfl, hM.bel⟩
theorem sortS_nil {w : World} {so9 : Option Addr} {c9 : Nat} {fv : Value} : Calls Tryz.prog 60 #[.slice so9 0 c9, fv] w fun e w' => e = .returned (.tuple #[]) ∧ Below w.heap.size w w' := by
 have hM : Mg w w ([]) := Mg.start w
 refine walk_of (l := [(0, .slice so9 0 c9), (1, fv)]) Tryz.func60 rfl Tryz.ntmps60 rfl rfl ?_
 intro Q hret hnorm hP a hA
 refine wp_region_lit ?_
 refine seq_do hA rfl rfl rfl (does_move rfl) ?_
 intro a hA
 refine seq_do hA rfl rfl rfl (does_move rfl) ?_
 intro a hA
 refine seq_do (v := .int .i64 0) hA rfl rfl rfl (does_len Tryz.underlying28 rfl) ?_
 intro a hA
 refine seq_do hA rfl rfl rfl (does_move rfl) ?_
 intro a hA
 refine seq_call hA rfl rfl rfl (enters_func rfl rfl (fun w => by kernel_rfl)) (stable_nil) ?_
 rintro _ w2 ⟨rfl, hb1⟩
 replace hM := hM.call hb1
 refine ⟨_, rfl, ?_⟩
 intro a hA
 refine seq_end ?_
 refine hnorm _ _ ?_
 refine ends (v := .tuple #[]) hA rfl .nil rfl ?_
 exact ⟨rfl, hM.bel⟩
theorem sortS_any {w0 w : World} {so9 : Option Addr} {c9 : Nat} {zs : List Dt} {T : List Ck} (hl : zs.length ≤ 1000000000) {f : FuncId} {cs : List Value} {c : Dt → Dt → Int} {ts : List Dt} (hF : Cmps Tryz.prog f cs w0 T ts c) (hsub : ∀ t ∈ zs, t ∈ ts) (H : Swo (ltC c)) (hM0 : Mg w0 w (.row 30 11 (.slice so9 zs.length c9) zs.length (cellsOf zs) :: T)) : Calls Tryz.prog 60 #[.slice so9 zs.length c9, .func (.func f) #[] cs.toArray] w fun e w' => e = .returned (.tuple #[]) ∧ Mg w0 w' (.row 30 11 (.slice so9 zs.length c9) zs.length (cellsOf (isort (ltC c) zs)) :: T) := by
  by_cases h : zs = []
  · subst h
    exact sortS_nil.mono fun e w' h => ⟨h.1, hM0.call h.2⟩
  · obtain ⟨g, c, e⟩ := row_open (hM0.has 0 rfl) (fun k => h (List.length_eq_zero_iff.1 k))
    cases e
    exact sortS_cons hl rfl hF hsub H hM0
theorem LiD_is1_28 : Is1 Tryz.prog 28 := ⟨⟨_, Tryz.underlying28, rfl⟩, by kernel_rfl⟩
theorem LiD_is1_3 : Is1 Tryz.prog 3 := ⟨⟨_, Tryz.underlying3, rfl⟩, by kernel_rfl⟩
theorem LiD_fld_30_0 : FieldAt Tryz.prog 30 0 0 := ⟨_, _, Tryz.underlying30, rfl, rfl, by kernel_rfl⟩
theorem LiD_fld_30_5 : FieldAt Tryz.prog 30 5 10 := ⟨_, _, Tryz.underlying30, rfl, rfl, by kernel_rfl⟩
theorem LiD_isS_30 : IsS Tryz.prog 30 11 := ⟨⟨_, Tryz.underlying30⟩, by kernel_rfl⟩
theorem first_any {w : World} {t t0 : Dt} (ht : t.rd w) (h0 : t.ts[0]? = some t0) : Calls Tryz.prog 33 #[.agg (t.d.cells t.ts.length).toArray] w fun e w' => e = .returned (.agg (t0.d.cells t0.ts.length).toArray) ∧ Below w.heap.size w w' := by
 have hlt : 0 < t.ts.length := (List.getElem?_eq_some_iff.1 h0).1
 have hM : Mg w w ([]) := Mg.start w
 refine walk_of (l := [(0, .agg (t.d.cells t.ts.length).toArray)]) Tryz.func33 rfl Tryz.ntmps33 rfl rfl ?_
 intro Q hret hnorm hP a hA
 refine wp_seq_k (fun K1 hK1 => ?_)
 refine wp_region_lit ?_
 refine s_new (vs := [.int .i64 t.d.k, .int .i64 t.d.n, .bool t.d.y.q.b1, .slice t.d.y.o1 t.d.y.q.t1.length t.d.y.c1, .slice t.d.y.o2 t.d.y.q.q1.length t.d.y.c2, .bool t.d.y.q.b2, .slice t.d.y.o3 t.d.y.q.t2.length t.d.y.c3, .slice t.d.y.o4 t.d.y.q.q2.length t.d.y.c4, .string t.d.s, .slice t.d.ro t.d.rl.length t.d.rc, .slice t.d.lo t.ts.length t.d.lc]) (t := 30) hA hM rfl rfl rfl (fun g => .pointer (some ⟨g, 0, none⟩)) (does_box rfl rfl) (by decide) ?_
 intro g2 w3 hM a hA
 refine s_new (vs := [.int .i64 0, .int .i64 0, .bool false, .slice none 0 0, .slice none 0 0, .bool false, .slice none 0 0, .slice none 0 0, .string (⟨#[]⟩), .slice none 0 0, .slice none 0 0]) (t := 30) hA hM rfl rfl rfl (fun g => .pointer (some ⟨g, 0, none⟩)) (does_alloc (z := .agg #[.int .i64 0, .int .i64 0, .bool false, .slice none 0 0, .slice none 0 0, .bool false, .slice none 0 0, .slice none 0 0, .string (⟨#[]⟩), .slice none 0 0, .slice none 0 0]) (by kernel_rfl) rfl) (by decide) ?_
 intro g4 w5 hM a hA
 refine seq_end ?_
 refine hK1 _ _ ?_
 refine wp_seq_k (fun K6 hK6 => ?_)
 obtain ⟨t1, bt1, ot1, it1, mt1, rt1_, lt1, Ht1⟩ := kidT ht (i := 0) hlt
 obtain rfl : t1 = t0 := by rw [it1] at h0; exact Option.some.inj h0
 refine wp_region_lit ?_
 refine seq_do (v := .pointer (some ⟨g2, 10, none⟩)) hA rfl rfl rfl (does_field LiD_fld_30_5 rfl rfl) ?_
 intro a hA
 refine seq_do hA rfl rfl rfl (m_load1 hM LiD_is1_28 rfl 1 rfl rfl) ?_
 intro a hA
 refine seq_do (v := .pointer (some ⟨bt1, ot1 + 0 * 11, none⟩)) hA rfl rfl rfl (does_indexD (k := 0) Tryz.underlying28 (by kernel_rfl) rfl rfl rfl lt1 hlt) ?_
 intro a hA
 refine seq_do hA rfl rfl rfl (m_loadHS hM Ht1 LiD_isS_30 rfl rfl) ?_
 intro a hA
 refine s_store (us := [.int .i64 t1.d.k, .int .i64 t1.d.n, .bool t1.d.y.q.b1, .slice t1.d.y.o1 t1.d.y.q.t1.length t1.d.y.c1, .slice t1.d.y.o2 t1.d.y.q.q1.length t1.d.y.c2, .bool t1.d.y.q.b2, .slice t1.d.y.o3 t1.d.y.q.t2.length t1.d.y.c3, .slice t1.d.y.o4 t1.d.y.q.q2.length t1.d.y.c4, .string t1.d.s, .slice t1.d.ro t1.d.rl.length t1.d.rc, .slice t1.d.lo t1.ts.length t1.d.lc]) (L' := (.obj g4 (.cells (t1.d.cells t1.ts.length).toArray 30) :: .obj g2 (.cells (t.d.cells t.ts.length).toArray 30) :: [])) hA hM rfl rfl (m_store rfl rfl rfl (by kernel_rfl) hM 0 rfl rfl rfl) 0 rfl rfl rfl ?_
 intro w7 hM
 refine seq_end ?_
 refine hK6 _ _ ?_
 refine wp_ret ?_
 refine hret _ _ ?_
 refine ends (v := .agg (t1.d.cells t1.ts.length).toArray) hA rfl (.cons (res_cellS hM LiD_isS_30 rfl 0 rfl (cs := [.int .i64 t1.d.k, .int .i64 t1.d.n, .bool t1.d.y.q.b1, .slice t1.d.y.o1 t1.d.y.q.t1.length t1.d.y.c1, .slice t1.d.y.o2 t1.d.y.q.q1.length t1.d.y.c2, .bool t1.d.y.q.b2, .slice t1.d.y.o3 t1.d.y.q.t2.length t1.d.y.c3, .slice t1.d.y.o4 t1.d.y.q.q2.length t1.d.y.c4, .string t1.d.s, .slice t1.d.ro t1.d.rl.length t1.d.rc, .slice t1.d.lo t1.ts.length t1.d.lc]) rfl rfl) .nil) rfl ?_
 exact ⟨rfl, hM.bel⟩
theorem end_any {w : World} : Calls Tryz.prog 43 #[] w fun e w' => e = .returned (.agg (nilD.d.cells nilD.ts.length).toArray) ∧ Below w.heap.size w w' := by
 have hM : Mg w w ([]) := Mg.start w
 refine walk_of (l := []) Tryz.func43 rfl Tryz.ntmps43 rfl rfl ?_
 intro Q hret hnorm hP a hA
 refine wp_seq_k (fun K1 hK1 => ?_)
 refine wp_region_lit ?_
 refine s_new (vs := [.int .i64 0, .int .i64 0, .bool false, .slice none 0 0, .slice none 0 0, .bool false, .slice none 0 0, .slice none 0 0, .string (⟨#[]⟩), .slice none 0 0, .slice none 0 0]) (t := 30) hA hM rfl rfl rfl (fun g => .pointer (some ⟨g, 0, none⟩)) (does_alloc (z := .agg #[.int .i64 0, .int .i64 0, .bool false, .slice none 0 0, .slice none 0 0, .bool false, .slice none 0 0, .slice none 0 0, .string (⟨#[]⟩), .slice none 0 0, .slice none 0 0]) (by kernel_rfl) rfl) (by decide) ?_
 intro g2 w3 hM a hA
 refine seq_end ?_
 refine hK1 _ _ ?_
 refine wp_seq_k (fun K4 hK4 => ?_)
 refine wp_region_lit ?_
 refine seq_do (v := .agg #[.int .i64 1, .int .i64 0, .bool false, .slice none 0 0, .slice none 0 0, .bool false, .slice none 0 0, .slice none 0 0, .string (⟨#[]⟩), .slice none 0 0, .slice none 0 0]) hA rfl rfl rfl (does_build rfl (fun w => by kernel_rfl)) ?_
 intro a hA
 refine s_store (us := [.int .i64 1, .int .i64 0, .bool false, .slice none 0 0, .slice none 0 0, .bool false, .slice none 0 0, .slice none 0 0, .string (⟨#[]⟩), .slice none 0 0, .slice none 0 0]) (L' := (.obj g2 (.cells #[.int .i64 1, .int .i64 0, .bool false, .slice none 0 0, .slice none 0 0, .bool false, .slice none 0 0, .slice none 0 0, .string (⟨#[]⟩), .slice none 0 0, .slice none 0 0] 30) :: [])) hA hM rfl rfl (m_store rfl rfl rfl (by kernel_rfl) hM 0 rfl rfl rfl) 0 rfl rfl rfl ?_
 intro w5 hM
 refine seq_end ?_
 refine hK4 _ _ ?_
 refine wp_ret ?_
 refine hret _ _ ?_
 refine ends (v := .agg #[.int .i64 1, .int .i64 0, .bool false, .slice none 0 0, .slice none 0 0, .bool false, .slice none 0 0, .slice none 0 0, .string (⟨#[]⟩), .slice none 0 0, .slice none 0 0]) hA rfl (.cons (res_cellS hM LiD_isS_30 rfl 0 rfl (cs := [.int .i64 1, .int .i64 0, .bool false, .slice none 0 0, .slice none 0 0, .bool false, .slice none 0 0, .slice none 0 0, .string (⟨#[]⟩), .slice none 0 0, .slice none 0 0]) rfl rfl) .nil) rfl ?_
 exact ⟨rfl, hM.bel⟩
theorem unlinked_or {w0 w : World} {t : Dt} (h0 : Below w0.heap.size w0 w) (ht : t.rd w0) (hs : allT shapeT t.tr = true) (hb : t.tr.bulk ≤ 1000000000) : Calls Tryz.prog 50 #[.agg (t.d.cells t.ts.length).toArray] w fun e w' => (∃ so' ca' xs, e = .returned (.tuple #[.slice so' (xs : List Dt).length ca', .int .i64 0]) ∧ (asList t.tr = some (xs.map Dt.tr) ∧ (∀ x ∈ xs, x.rd w0) ∧ xs.length ≤ t.tr.bulk) ∧ Mg w w' [.row 30 11 (.slice so' xs.length ca') xs.length (cellsOf xs)]) ∨ (e = .returned (.tuple #[.slice none 0 0, .int .i64 10]) ∧ asList t.tr = none ∧ Below w.heap.size w w') := by
 have hM : Mg w w ([]) := Mg.start w
 refine walk_of (l := [(0, .agg (t.d.cells t.ts.length).toArray)]) Tryz.func50 rfl Tryz.ntmps50 rfl rfl ?_
 intro Q hret hnorm hP a hA
 refine wp_seq_k (fun K1 hK1 => ?_)
 refine wp_region_lit ?_
 refine s_new (vs := [.int .i64 t.d.k, .int .i64 t.d.n, .bool t.d.y.q.b1, .slice t.d.y.o1 t.d.y.q.t1.length t.d.y.c1, .slice t.d.y.o2 t.d.y.q.q1.length t.d.y.c2, .bool t.d.y.q.b2, .slice t.d.y.o3 t.d.y.q.t2.length t.d.y.c3, .slice t.d.y.o4 t.d.y.q.q2.length t.d.y.c4, .string t.d.s, .slice t.d.ro t.d.rl.length t.d.rc, .slice t.d.lo t.ts.length t.d.lc]) (t := 30) hA hM rfl rfl rfl (fun g => .pointer (some ⟨g, 0, none⟩)) (does_box rfl rfl) (by decide) ?_
 intro g2 w3 hM a hA
 refine seq_do hA rfl rfl rfl (does_assign rfl) ?_
 intro a hA
 refine seq_do hA rfl rfl rfl (does_assign rfl) ?_
 intro a hA
 refine seq_end ?_
 refine hK1 _ _ ?_
 refine wp_seq_k (fun K4 hK4 => ?_)
 refine wp_region_lit ?_
 refine seq_do hA rfl rfl rfl (does_assign rfl) ?_
 intro a hA
 refine seq_end ?_
 refine hK4 _ _ ?_
 refine wp_seq_k (fun K5 hK5 => ?_)
 refine wp_block ?_
 replace hM := hM.nilRow (noBld_cons (by simp) (noBld_quiet quietL_nil)) 30 11
 refine wp_loop_n (fun m_ a w1 => ∃ (p : Dt) (xs : List Dt) (so_ : Option Addr) (ca_ : Nat), m_ = 1 + p.tr.bulk ∧ (p.rd w0 ∧ allT shapeT p.tr = true ∧ (∀ x ∈ xs, x.rd w0) ∧ t.tr = linkT (xs.map Dt.tr) p.tr ∧ xs.length + p.tr.bulk ≤ t.tr.bulk) ∧ Sl a 21 [(0, .agg (t.d.cells t.ts.length).toArray), (1, .pointer (some ⟨g2, 0, none⟩)), (2, .slice none 0 0), (3, .int .i64 0), (4, .slice so_ xs.length ca_)] ∧ Mg w w1 (.row 30 11 (.slice so_ xs.length ca_) xs.length (cellsOf xs) :: .obj g2 (.cells (p.d.cells p.ts.length).toArray 30) :: [])) _ ⟨t, [], none, 0, rfl, ⟨ht, hs, (fun x h => by cases h), rfl, (by show 0 + t.tr.bulk ≤ t.tr.bulk; omega)⟩, hA.keep _ ⟨rfl, rfl, rfl, rfl, rfl, trivial⟩, hM⟩ ?_
 clear hM hA
 rintro m_ a w6 ⟨p, xs, so_, ca_, rfl, hinv8, hA, hM⟩ K7 hK7
 obtain ⟨hp, hps, hxs, htl, hbx⟩ := hinv8
 refine wp_seq_k (fun K9 hK9 => ?_)
 refine wp_seq_k (fun K10 hK10 => ?_)
 refine wp_region_lit ?_
 refine seq_do (v := .pointer (some ⟨g2, 0, none⟩)) hA rfl rfl rfl (does_field LiD_fld_30_0 rfl rfl) ?_
 intro a hA
 refine seq_do hA rfl rfl rfl (m_load1 hM LiD_is1_3 rfl 1 rfl rfl) ?_
 intro a hA
 rcases Bool.eq_false_or_eq_true ((p.d.k == 8)) with hb11 | hb11
 · have hb11' := eq_of_beq hb11
   refine seq_do (v := .bool true) hA rfl rfl rfl (does_bin rfl rfl (fun w => (bin_eql w).trans (by rw [hb11]))) ?_
   intro a hA
   refine seq_end ?_
   refine hK10 _ _ ?_
   refine wp_cond_true (hA.ev rfl) ?_
   refine wp_skip ?_
   refine hK9 _ _ ?_
   refine wp_block ?_
   refine wp_seq_k (fun K12 hK12 => ?_)
   have l2p := (pair_at hps hb11').1
   have hbp := bulk_one p
   obtain ⟨p0, bp0, op0, ip0, mp0, rp0_, lp0, Hp0⟩ := kidT hp (i := 0) (by omega)
   obtain ⟨p1, bp1, op1, ip1, mp1, rp1_, lp1, Hp1⟩ := kidT hp (i := 1) (by omega)
   replace Hp0 := Hp0.below h0
   replace Hp1 := Hp1.below h0
   refine wp_region_lit ?_
   refine seq_do hA rfl rfl rfl (does_move rfl) ?_
   intro a hA
   refine seq_do hA rfl rfl rfl (m_loadS hM LiD_isS_30 rfl 1 rfl (cs := [.int .i64 p.d.k, .int .i64 p.d.n, .bool p.d.y.q.b1, .slice p.d.y.o1 p.d.y.q.t1.length p.d.y.c1, .slice p.d.y.o2 p.d.y.q.q1.length p.d.y.c2, .bool p.d.y.q.b2, .slice p.d.y.o3 p.d.y.q.t2.length p.d.y.c3, .slice p.d.y.o4 p.d.y.q.q2.length p.d.y.c4, .string p.d.s, .slice p.d.ro p.d.rl.length p.d.rc, .slice p.d.lo p.ts.length p.d.lc]) rfl rfl) ?_
   intro a hA
   refine seq_call hA rfl rfl rfl (enters_func rfl rfl (fun w => by kernel_rfl)) (first_any (Dt.keep hM.bel _ (Dt.keep h0 _ hp)) ip0) ?_
   rintro _ w14 ⟨rfl, hb13⟩
   replace hM := hM.call hb13
   refine ⟨_, rfl, ?_⟩
   intro a hA
   refine s_litE (e := 30) (sz := 11) (m := 1) (vs := cellsOf [p0]) hA hM rfl rfl rfl (does_buildSlice rfl (by kernel_rfl)) rfl rfl (.inl (by decide)) ?_
   intro g15 w16 hM a hA
   refine s_appendE (e := 30) (sz := 11) (k := 1) (q := xs.length) (m := 1) (xs := cellsOf xs) (news := cellsOf [p0]) (L' := fun v17 => (.row 30 11 (.slice (some ⟨g15, 0, none⟩) 1 1) 1 (cellsOf [p0]) :: .row 30 11 (v17) (xs.length + 1) (cellsOf xs ++ cellsOf [p0]) :: .obj g2 (.cells (p.d.cells p.ts.length).toArray 30) :: [])) hA rfl rfl rfl (m_appX (z := .agg #[.int .i64 0, .int .i64 0, .bool false, .slice none 0 0, .slice none 0 0, .bool false, .slice none 0 0, .slice none 0 0, .string ⟨#[]⟩, .slice none 0 0, .slice none 0 0]) (sz := 11) (by_ := 192) Tryz.underlying28 (by kernel_rfl) rfl rfl rfl hM 1 rfl rfl rfl rfl (rc_own (hM.has 0 rfl)) (cellsOf_oneC [p0]) (by omega)) (fun _ => rfl) ?_
   intro v17 w18 hM a hA
   replace hM : Mg w w18 (.row 30 11 (.slice (some ⟨g15, 0, none⟩) 1 1) 1 (cellsOf [p0]) :: .row 30 11 (v17) ((xs ++ [p0]).length) (cellsOf (xs ++ [p0])) :: .obj g2 (.cells (p.d.cells p.ts.length).toArray 30) :: []) := by
     rw [cellsOf_append, List.length_append]; exact hM
   obtain ⟨so19, ca20, rfl⟩ := owns_any (hM.has 1 rfl)
   refine seq_do hA rfl rfl rfl (does_assign rfl) ?_
   intro a hA
   refine seq_end ?_
   refine hK12 _ _ ?_
   refine wp_region_lit ?_
   refine seq_do (v := .pointer (some ⟨g2, 10, none⟩)) hA rfl rfl rfl (does_field LiD_fld_30_5 rfl rfl) ?_
   intro a hA
   refine seq_do hA rfl rfl rfl (m_load1 hM LiD_is1_28 rfl 2 rfl rfl) ?_
   intro a hA
   refine seq_do (v := .pointer (some ⟨bp1, op1 + 1 * 11, none⟩)) hA rfl rfl rfl (does_indexD (k := 1) Tryz.underlying28 (by kernel_rfl) rfl rfl rfl lp1 (by omega)) ?_
   intro a hA
   refine seq_do hA rfl rfl rfl (m_loadHS hM Hp1 LiD_isS_30 rfl rfl) ?_
   intro a hA
   refine s_store (us := [.int .i64 p1.d.k, .int .i64 p1.d.n, .bool p1.d.y.q.b1, .slice p1.d.y.o1 p1.d.y.q.t1.length p1.d.y.c1, .slice p1.d.y.o2 p1.d.y.q.q1.length p1.d.y.c2, .bool p1.d.y.q.b2, .slice p1.d.y.o3 p1.d.y.q.t2.length p1.d.y.c3, .slice p1.d.y.o4 p1.d.y.q.q2.length p1.d.y.c4, .string p1.d.s, .slice p1.d.ro p1.d.rl.length p1.d.rc, .slice p1.d.lo p1.ts.length p1.d.lc]) (L' := (.row 30 11 (.slice (some ⟨g15, 0, none⟩) 1 1) 1 (cellsOf [p0]) :: .row 30 11 (.slice so19 ((xs ++ [p0]).length) ca20) ((xs ++ [p0]).length) (cellsOf (xs ++ [p0])) :: .obj g2 (.cells (p1.d.cells p1.ts.length).toArray 30) :: [])) hA hM rfl rfl (m_store rfl rfl rfl (by kernel_rfl) hM 2 rfl rfl rfl) 2 rfl rfl rfl ?_
   intro w21 hM
   refine seq_end ?_
   replace hM : Mg w w21 (.row 30 11 (.slice so19 ((xs ++ [p0]).length) ca20) ((xs ++ [p0]).length) (cellsOf (xs ++ [p0])) :: .obj g2 (.cells (p1.d.cells p1.ts.length).toArray 30) :: []) := by
     have h9 := hM.sub (.cons _ (.cons_cons _ (.cons_cons _ (.refl _))))
     exact h9
   refine hK7 _ _ _ (by have := bulkT mp1; omega) ⟨p1, xs ++ [p0], so19, ca20, rfl, ⟨rp1_, (all_at hps).2 _ mp1, mem_snoc hxs rp0_, link_step htl hps hb11' ip0 ip1, by have := bulkT mp1; rw [List.length_append]; simp only [List.length_cons, List.length_nil]; omega⟩, hA.keep _ ⟨rfl, rfl, rfl, rfl, rfl, trivial⟩, hM⟩
 · have hb11' := ne_of_beq_false hb11
   refine seq_do (v := .bool false) hA rfl rfl rfl (does_bin rfl rfl (fun w => (bin_eql w).trans (by rw [hb11]))) ?_
   intro a hA
   refine seq_end ?_
   refine hK10 _ _ ?_
   refine wp_cond_false (hA.ev rfl) ?_
   refine wp_exit ?_
   refine hK5 _ _ ?_
   refine wp_seq_k (fun K22 hK22 => ?_)
   refine wp_seq_k (fun K23 hK23 => ?_)
   refine wp_region_lit ?_
   refine seq_do (v := .pointer (some ⟨g2, 0, none⟩)) hA rfl rfl rfl (does_field LiD_fld_30_0 rfl rfl) ?_
   intro a hA
   refine seq_do hA rfl rfl rfl (m_load1 hM LiD_is1_3 rfl 1 rfl rfl) ?_
   intro a hA
   rcases Bool.eq_false_or_eq_true ((p.d.k != 1)) with hb24 | hb24
   · have hb24' := bne_iff_ne.1 hb24
     refine seq_do (v := .bool true) hA rfl rfl rfl (does_bin rfl rfl (fun w => (bin_neq w).trans (by rw [hb24]))) ?_
     intro a hA
     refine seq_end ?_
     refine hK23 _ _ ?_
     refine wp_cond_true (hA.ev rfl) ?_
     refine wp_seq_k (fun K25 hK25 => ?_)
     refine wp_region_lit ?_
     refine seq_do hA rfl rfl rfl (does_assign rfl) ?_
     intro a hA
     refine seq_do hA rfl rfl rfl (does_assign rfl) ?_
     intro a hA
     refine seq_end ?_
     refine hK25 _ _ ?_
     refine wp_ret ?_
     refine hret _ _ ?_
     refine ends (v := .tuple #[.slice none 0 0, .int .i64 10]) hA rfl (.cons (res_tmp rfl) (.cons (res_tmp rfl) .nil)) rfl ?_
     exact .inr ⟨rfl, asList_not htl hb11' hb24', hM.bel⟩
   · have hb24' := bne_eq_false_iff_eq.1 hb24
     refine seq_do (v := .bool false) hA rfl rfl rfl (does_bin rfl rfl (fun w => (bin_neq w).trans (by rw [hb24]))) ?_
     intro a hA
     refine seq_end ?_
     refine hK23 _ _ ?_
     refine wp_cond_false (hA.ev rfl) ?_
     refine wp_skip ?_
     refine hK22 _ _ ?_
     refine wp_seq_k (fun K26 hK26 => ?_)
     refine wp_region_lit ?_
     refine seq_do hA rfl rfl rfl (does_move rfl) ?_
     intro a hA
     refine seq_do hA rfl rfl rfl (does_assign rfl) ?_
     intro a hA
     refine seq_do hA rfl rfl rfl (does_assign rfl) ?_
     intro a hA
     refine seq_end ?_
     refine hK26 _ _ ?_
     refine wp_ret ?_
     refine hret _ _ ?_
     refine ends (v := .tuple #[.slice so_ xs.length ca_, .int .i64 0]) hA rfl (.cons (res_tmp rfl) (.cons (res_tmp rfl) .nil)) rfl ?_
     replace hM : Mg w w6 (.row 30 11 (.slice so_ xs.length ca_) xs.length (cellsOf xs) :: []) := by
       have h9 := hM.sub (.cons_cons _ (.cons _ (.refl _)))
       exact h9
     exact .inl ⟨_, _, xs, rfl, ⟨asList_nil htl hps hb24', hxs, by omega⟩, hM⟩
theorem unlinked_some {w0 w : World} {t : Dt} (h0 : Below w0.heap.size w0 w) (ht : t.rd w0) (hs : allT shapeT t.tr = true) (hb : t.tr.bulk ≤ 1000000000) (h : (asList t.tr).isSome = true) : Calls Tryz.prog 50 #[.agg (t.d.cells t.ts.length).toArray] w fun e w' => ∃ so' ca' xs, e = .returned (.tuple #[.slice so' (xs : List Dt).length ca', .int .i64 0]) ∧ (asList t.tr = some (xs.map Dt.tr) ∧ (∀ x ∈ xs, x.rd w0) ∧ xs.length ≤ t.tr.bulk) ∧ Mg w w' [.row 30 11 (.slice so' xs.length ca') xs.length (cellsOf xs)] := by
  refine (unlinked_or h0 ht hs hb).mono ?_
  rintro e w' (h1 | ⟨_, h2, _⟩)
  · exact h1
  · rw [h2] at h; cases h
theorem unlinked_none {w0 w : World} {t : Dt} (h0 : Below w0.heap.size w0 w) (ht : t.rd w0) (hs : allT shapeT t.tr = true) (hb : t.tr.bulk ≤ 1000000000) (h : (asList t.tr).isSome = false) : Calls Tryz.prog 50 #[.agg (t.d.cells t.ts.length).toArray] w fun e w' => e = .returned (.tuple #[.slice none 0 0, .int .i64 10]) ∧ Below w.heap.size w w' := by
  refine (unlinked_or h0 ht hs hb).mono ?_
  rintro e w' (⟨_, _, xs, _, h1, _⟩ | ⟨h1, _, h3⟩)
  · rw [h1.1] at h; cases h
  · exact ⟨h1, h3⟩
section
variable {F : Fence} {m : Nat} {P : Program} {w0 w w' : World} {L : List Ck} {l : List (Nat × Value)} {ops : List Oper} {Q : Exit → Act → World → Prop} {a : Act} {n : Nat} {o : Oper} {rest : List Oper} {d : Nat} {v : Value}
/-- The slots, whatever waits for the function's end. -/
def Sd (a : Act) (n : Nat) (l : List (Nat × Value)) : Prop := Sl { a with defers := [] } n l
theorem sem_at (hnd : ∀ c, o.op ≠ .defer c) (r : Option Nat) (ρ : Operand → Value) : o.semAt r ρ = execOp ρ o := by
  cases r with
  | none => rfl
  | some k => exact Oper.semAt_some k _ _ hnd
theorem i_do (hF : ∀ f, F.fn f) (hA : Sd a n l) (hg : passes l ops o = true) (hdst : o.dst = some d) (hd : Nat.blt d n = true) (hnd : ∀ c, o.op ≠ .defer c) (he : Does P l o w v w')
    (hk : ∀ a', Sd a' n ((d, v) :: l) → a'.defers = a.defers → wpListIn F m P ops.toArray Q rest a' w') : wpListIn F m P ops.toArray Q (o :: rest) a w := by
  unfold wpListIn
  rw [if_pos (show Region.wanted o (yielded ops.toArray a.tmps) = true from hA.wanted hg)]
  refine ⟨fun f _ => hF f, ?_⟩
  rw [sem_at hnd, he a.eval (fun x u hx => hA.ev hx), Oper.uponIn_value, hdst]
  exact hk _ (hA.put hd v) rfl
theorem i_set (hF : ∀ f, F.fn f) (hA : Sd a n l) (hg : passes l ops o = true) (hdst : o.dst = none) (hnd : ∀ c, o.op ≠ .defer c) (he : Sets P l o w w')
    (hk : wpListIn F m P ops.toArray Q rest a w') : wpListIn F m P ops.toArray Q (o :: rest) a w := by
  unfold wpListIn
  rw [if_pos (show Region.wanted o (yielded ops.toArray a.tmps) = true from hA.wanted hg)]
  refine ⟨fun f _ => hF f, ?_⟩
  rw [sem_at hnd, he a.eval (fun x u hx => hA.ev hx), Oper.uponIn_skip, hdst]
  exact hk
theorem i_call (hF : ∀ f, F.fn f) (hd0 : F.depth = none) (hA : Sd a n l) (hg : passes l ops o = true) (hdst : o.dst = some d) (hd : Nat.blt d n = true) (hnd : ∀ c, o.op ≠ .defer c) {f : FuncId} {vs : List Value} (he : Enters P l o w f vs) {R : World → Prop} (hc : CallsIn F (m - 1) P f vs.toArray w fun e w' => e = .returned v ∧ R w')
    (hk : ∀ w', R w' → ∀ a', Sd a' n ((d, v) :: l) → a'.defers = a.defers → wpListIn F m P ops.toArray Q rest a' w') : wpListIn F m P ops.toArray Q (o :: rest) a w := by
  unfold wpListIn
  rw [if_pos (show Region.wanted o (yielded ops.toArray a.tmps) = true from hA.wanted hg)]
  refine ⟨fun f _ => hF f, ?_⟩
  rw [sem_at hnd, he a.eval (fun x u hx => hA.ev hx), Oper.uponIn_enter]
  refine ⟨(fun h => by rw [hd0] at h; cases h), hc.mono ?_⟩
  rintro _ w' ⟨rfl, h⟩
  rw [hdst]
  exact hk w' h _ (hA.put hd v) rfl
/-- A loop of so many rounds. -/
theorem i_loop {c : Code} (I : Nat → Act → World → Prop) (N : Nat) (h0 : I N a w) (round : ∀ k a w, I k a w → c.wpIn F m P (Exit.then (fun a' w' => ∃ j, k = j + 1 ∧ I j a' w') Q) a w) : (Code.loop c).wpIn F m P Q a w := by
  have key : ∀ k a w, I k a w → Code.roundsIn F m P c Q (k + 1) a w := by
    intro k
    induction k with
    | zero =>
      intro a w h
      refine wpIn_mono (round 0 a w h) (fun e a' w' hq => ?_)
      cases e with
      | normal => obtain ⟨j, hj, _⟩ := hq; omega
      | _ => exact hq
    | succ k ih =>
      intro a w h
      refine wpIn_mono (round (k + 1) a w h) (fun e a' w' hq => ?_)
      cases e with
      | normal =>
        obtain ⟨j, hj, hI⟩ := hq
        obtain rfl : k = j := by omega
        exact ih a' w' hI
      | _ => exact hq
  exact wpIn_loop_rounds (N + 1) (key N a w h0)
/-- A round of a loop is called. -/
theorem i_yield (hF : ∀ f, F.fn f) (hd0 : F.depth = none) (hA : Sd a n l) (hg : passes l ops o = true) (hdst : o.dst = some d) (hd : Nat.blt d n = true) (hnd : ∀ c, o.op ≠ .defer c) {k : Nat} {vs : List Value} (he : ∀ ρ : Operand → Value, (∀ x u, ev l x = some u → ρ x = u) → (execOp ρ o).run P w = (Instr.yield k vs.toArray).run P w) {R : Bool → World → Prop} (hy : YieldAt F (m - 1) P k vs.toArray w fun e w' => ∃ b, e = .returned (.bool b) ∧ R b w')
    (hk : ∀ b w', R b w' → ∀ a', Sd a' n ((d, .bool b) :: l) → a'.defers = a.defers → wpListIn F m P ops.toArray Q rest a' w') : wpListIn F m P ops.toArray Q (o :: rest) a w := by
  obtain ⟨fn, tmps, assign, body, h1, h2⟩ := hy
  unfold wpListIn
  rw [if_pos (show Region.wanted o (yielded ops.toArray a.tmps) = true from hA.wanted hg)]
  refine ⟨fun f _ => hF f, ?_⟩
  rw [sem_at hnd, he a.eval (fun x u hx => hA.ev hx), h1, Oper.uponIn_round]
  refine ⟨(fun h => by rw [hd0] at h; cases h), h2.mono ?_⟩
  rintro _ w' ⟨b, rfl, h⟩
  rw [hdst]
  exact hk b w' h _ (hA.put hd (.bool b)) rfl
theorem calls_yield {x : Operand} {k : Nat} {args : List Operand} {ts : Array TypeId} {vs : List Value} {dst : Option Tmp} {ty : TypeId} {pos : String} {after : Array Edge} {guard : Option (Nat × Bool)} (hx : ev l x = some (.func (.yield k) #[] #[])) (ha : evs l args = some vs) :
    ∀ ρ : Operand → Value, (∀ x u, ev l x = some u → ρ x = u) → (execOp ρ ⟨dst, .call ⟨.value x, args.toArray, ts⟩, ty, pos, after, guard⟩).run P w = (Instr.yield k vs.toArray).run P w := fun ρ h => by
  have e := evs_map h args vs ha
  simp [execOp, resolve, invoke, h x _ hx, Deferred.ofValue, e]
theorem Sd.sl (h : Sd a n l) (hd : a.defers = []) : Sl a n l := ⟨h.size, h.holds, hd⟩
theorem Sd.ev (h : Sd a n l) {x : Operand} {v : Value} (hx : Go.Proofs.YtofbejppkldhnaaGreatDoor.G.ev l x = some v) : a.eval x = v := Sl.ev h hx
theorem Sd.keep (h : Sd a n l) (l' : List (Nat × Value)) (hs : AllIn l l') : Sd a n l' := Sl.keep h l' hs
theorem i_walk {f : FuncId} {fn : Func} {c : Code} {args : List Value} {Z : Ending → World → Prop} (hf : P.funcs[f]? = some fn) (hb : fn.body = some c) (hF : F.fn f) (hn : fn.ntmps = n) (hl : Nat.ble args.length n = true) (hs : (args.zipIdx.map fun p => (p.2, p.1)) = l) (hro : F.round = none)
    (h : ∀ Q : Exit → Act → World → Prop, (∀ a w, bodyPost P fn Z .ret a w → Q .ret a w) → (∀ a w, bodyPost P fn Z .ret a w → Q .normal a w) → ∀ a, Sd a n l → a.defers = [] → c.wpIn F m P Q a w) : CallsIn F m P f args.toArray w Z := by
  subst hs
  refine callsIn_of_wp hf hb hF (h _ (fun _ _ h => h) (fun _ _ h => h) _ ?_ rfl) hro
  rw [hn]
  exact Sl.enter (Nat.le_of_ble_eq_true hl)
theorem i_walkM {f : FuncId} {fn : Func} {c : Code} {args : List Value} {Z : Ending → World → Prop} (hf : P.funcs[f]? = some fn) (hb : fn.body = some c) (hF : F.fn f) (hn : fn.ntmps = n) (hl : Nat.ble args.length n = true) (hs : (args.zipIdx.map fun p => (p.2, p.1)) = l) (hro : F.round = none)
    (h : ∀ Q : Exit → Act → World → Prop, (∀ a w, bodyPostM F m P fn Z .ret a w → Q .ret a w) → ∀ a, Sd a n l → a.defers = [] → c.wpIn F m P Q a w) : CallsIn F m P f args.toArray w Z := by
  subst hs
  refine callsIn_of_wp_marks hf hb hF (h _ (fun _ _ h => h) _ ?_ rfl) hro
  rw [hn]
  exact Sl.enter (Nat.le_of_ble_eq_true hl)
theorem i_seq {x y : Code} (h : ∀ K : Act → World → Prop, (∀ a w, y.wpIn F m P Q a w → K a w) → x.wpIn F m P (Exit.then K Q) a w) : (Code.seq x y).wpIn F m P Q a w := wpIn_seq (h _ (fun _ _ h => h))
theorem i_new (hF : ∀ f, F.fn f) (hA : Sd a n l) (hM : Mg w0 w L) (hg : passes l ops o = true) (hdst : o.dst = some d) (hd : Nat.blt d n = true) (hnd : ∀ c, o.op ≠ .defer c) {vs : List Value} {t : TypeId} (val : Nat → Value) (he : Does P l o w (val w.heap.size) (w.alloc (.cells vs.toArray t))) (ht : t ≠ BY)
    (hk : ∀ g w', Mg w0 w' (.obj g (.cells vs.toArray t) :: L) → w.heap.size ≤ g → g < w'.heap.size → Below w.heap.size w w' → KeepsOthers w w' → ∀ a', Sd a' n ((d, val g) :: l) → a'.defers = a.defers → wpListIn F m P ops.toArray Q rest a' w') : wpListIn F m P ops.toArray Q (o :: rest) a w :=
  i_do hF hA hg hdst hd hnd he (hk _ _ (hM.addObj _ (quiet_cells ht)) (Nat.le_refl _) (by simp) ((Below.refl _ w).alloc (Nat.le_refl _) _) (KeepsOthers.alloc _ _))
end
theorem keeps_sets (g : Nat) : ∀ (cs : List Value) (w : World) (o : Nat), KeepsOthers w (w.setCells g o cs)
  | [], w, o => KeepsOthers.refl w
  | c :: cs, w, o => (KeepsOthers.setCell w ⟨g, o, none⟩ c).trans (keeps_sets g cs _ _)
theorem below_sets {B : Nat} (g : Nat) (hg : B ≤ g) : ∀ (cs : List Value) (w : World) (o : Nat), Below B w (w.setCells g o cs)
  | [], w, o => Below.refl _ w
  | c :: cs, w, o => ((Below.refl B w).setCell (p := ⟨g, o, none⟩) hg c).trans (below_sets g hg cs _ _)
/-- A block that holds no cells is turned: all cells are kept. -/
theorem kept_calm {w w' : World} {row : Option Nat} (hg : w.grownBy w' row) (hr : ∀ r, row = some r → ∃ o : Obj, w.heap[r]? = some o ∧ o.isCells = false) : Kept (fun _ => True) w w' := ⟨hg.size, fun b i v _ hc => by
  by_cases e : row = some b
  · obtain ⟨o, ho, hn⟩ := hr b e
    unfold World.cell? at hc
    simp only [ho] at hc
    cases o <;> simp_all [Obj.isCells]
  · exact hg.cell hc (fun k => e k.symm)⟩
theorem Mg.calm {w0 w w' : World} {L : List Ck} {row : Option Nat} (h : Mg w0 w L) (hg : w.grownBy w' row) (hr : ∀ r, row = some r → w0.heap.size ≤ r ∧ ∃ o : Obj, w.heap[r]? = some o ∧ o.isCells = false) (hL : ∀ c ∈ L, ∃ g vs t, c = .obj g (.cells vs t)) : Mg w0 w' L := by
  refine ⟨h.bel.grown hg h.bel.size (fun k e => (hr k e).1), fun c hc => ?_, h.dis⟩
  obtain ⟨g, vs, t, rfl⟩ := hL c hc
  have h2 := h.all _ hc
  refine ⟨h2.1, (hg.block g (Array.getElem?_eq_some_iff.1 h2.2).1 (fun e => ?_)).trans h2.2⟩
  obtain ⟨_, o, ho, hn⟩ := hr g e.symm
  rw [h2.2] at ho
  cases ho
  cases hn
theorem Dt.at_true : ∀ t : Dt, t.at_ (fun _ => True) := Dt.indT fun d ts ih => Dt.at_iff.2 ⟨⟨fun _ _ _ _ => trivial, fun _ _ _ _ => trivial, fun _ _ _ _ => trivial, fun _ _ _ _ => trivial, fun _ _ _ _ => trivial⟩, fun _ _ _ _ => trivial, ih⟩
theorem Here.kept {w w' : World} {b o : Nat} {cs : List Value} (h : Here w b o cs) (hk : Kept (fun _ => True) w w') : Here w' b o cs := ⟨Nat.lt_of_lt_of_le h.1 hk.1, fun j v hj => hk.2 _ _ _ trivial (h.2 j v hj)⟩
theorem f_is1_data : Is1 Tryz.prog 28 := ⟨⟨_, Tryz.underlying28, rfl⟩, by kernel_rfl⟩
theorem f_isS_dat : IsS Tryz.prog 30 11 := ⟨⟨_, Tryz.underlying30⟩, by kernel_rfl⟩
/-- What is handed to a round: a place, and a datum that was there. -/
def Al (w : World) : Type := { x : Int × Dt // x.2.rd w }
def encA {w : World} (x : Al w) : Array Value := #[.int .i64 x.1.1, .agg (x.1.2.d.cells x.1.2.ts.length).toArray]
/-- What a round keeps: what lay there, and the iterator's own box. -/
def KpB (n₀ Bs : Nat) (W W' : World) : Prop := Below n₀ W W' ∧ ∀ v, W.cell? ⟨Bs, 0, none⟩ = some v → W'.cell? ⟨Bs, 0, none⟩ = some v
theorem KpB.refl (n₀ Bs : Nat) (W : World) : KpB n₀ Bs W W := ⟨Below.refl _ _, fun _ h => h⟩
theorem KpB.trans {n₀ Bs : Nat} {A B C : World} (h : KpB n₀ Bs A B) (k : KpB n₀ Bs B C) : KpB n₀ Bs A C := ⟨h.1.trans k.1, fun v hv => k.2 v (h.2 v hv)⟩
set_option maxRecDepth 100000 in
set_option maxHeartbeats 400000 in
theorem back_stops {wA w0 : World} {Bs : Nat} {so : Option Addr} {ca : Nat} {ts : List Dt} (hR : Rt wA so ts) (hD : ∀ t ∈ ts, t.rd wA) (hb : Below wA.heap.size wA w0) (hBs : w0.cell? ⟨Bs, 0, none⟩ = some (.slice so ts.length ca)) (hBl : Bs < w0.heap.size) (hl : ts.length ≤ 1000000000) (n : Nat) :
    SeqStopsK Fence.wide n Tryz.prog 95 #[.pointer (some ⟨Bs, 0, none⟩)] (encA (w := wA)) (KpB wA.heap.size Bs) (fun ys => ys.map (fun x => x.1.2) = ts.reverse) (fun _ => True) ts.length w0 := by
  intro l J Jx W hW hJ hJx hY h0
  have hF : ∀ f, Fence.wide.fn f := fun _ => trivial
  rw [List.append_toArray]
  refine i_walk (l := [(0, .func (.yield l) #[] #[]), (1, .pointer (some ⟨Bs, 0, none⟩))]) Tryz.func95 rfl trivial rfl rfl rfl rfl ?_
  intro Q hret hnorm a hA hdf
  have hc : W.cell? ⟨Bs, 0, none⟩ = some (.slice so ts.length ca) := (hW.cell (p := ⟨Bs, 0, none⟩) hBl).trans hBs
  refine i_seq fun K1 hK1 => wpIn_region_lit ?_
  refine i_do (v := .slice so ts.length ca) hF hA rfl rfl rfl (by intro c h; cases h) (does_load rfl (run_load1 f_is1_data hc)) fun a hA h2 => ?_
  refine i_do (v := .int .i64 (ts.length : Nat)) hF hA rfl rfl rfl (by intro c h; cases h) (does_len Tryz.underlying28 rfl) fun a hA h3 => ?_
  refine i_do (v := .int .i64 ((ts.length : Int) - 1)) hF hA rfl rfl rfl (by intro c h; cases h) (does_bin rfl rfl (ar_sub (in_i64 (by omega) (by omega)))) fun a hA h4 => ?_
  refine i_do (v := .int .i64 ((ts.length : Int) - 1)) hF hA rfl rfl rfl (by intro c h; cases h) (does_assign rfl) fun a hA h5 => ?_
  refine wpListIn_nil (hK1 _ _ (wpIn_block ?_))
  refine i_loop (fun k a W' => k ≤ ts.length ∧ Sd a 19 [(0, .func (.yield l) #[] #[]), (1, .pointer (some ⟨Bs, 0, none⟩)), (3, .int .i64 ((k : Int) - 1))] ∧ a.defers = [] ∧ KpB wA.heap.size Bs W W' ∧ ∃ pre, J pre W' ∧ pre.map (fun x => x.1.2) = (ts.drop k).reverse) ts.length ⟨Nat.le_refl _, hA.keep _ ⟨rfl, rfl, rfl, trivial⟩, by rw [h5, h4, h3, h2, hdf], KpB.refl _ _ _, [], h0, by rw [List.drop_length]; rfl⟩ ?_
  rintro k a W' ⟨hk, hA, hd, hKp, pre, hJp, hpre⟩
  have hc' := hKp.2 _ hc
  refine i_seq fun K2 hK2 => i_seq fun K3 hK3 => wpIn_region_lit ?_
  refine i_do (v := .int .i64 ((k : Int) - 1)) hF hA rfl rfl rfl (by intro c h; cases h) (does_move rfl) fun a hA h2 => ?_
  refine i_do (v := .bool (decide ((0 : Int) ≤ (k : Int) - 1))) hF hA rfl rfl rfl (by intro c h; cases h) (does_bin rfl rfl bin_geq) fun a hA h3 => ?_
  refine wpListIn_nil (hK3 _ _ ?_)
  refine wpIn_cond_split (t := decide ((0 : Int) ≤ (k : Int) - 1)) (hA.ev rfl) (fun hq => ?_) (fun hq => ?_)
  · have hq' := of_decide_eq_true hq
    refine wpIn_skip (hK2 _ _ (i_seq fun K4 hK4 => wpIn_block (i_seq fun K5 hK5 => wpIn_region_lit ?_)))
    obtain ⟨t1, b1, o1, it1, mt1, rt1, lt1, Ht1⟩ := kidL hR hD (i := k - 1) (by omega)
    refine i_do (v := .func (.yield l) #[] #[]) hF hA rfl rfl rfl (by intro c h; cases h) (does_move rfl) fun a hA h4 => ?_
    refine i_do (v := .int .i64 ((k : Int) - 1)) hF hA rfl rfl rfl (by intro c h; cases h) (does_move rfl) fun a hA h5 => ?_
    refine i_do (v := .slice so ts.length ca) hF hA rfl rfl rfl (by intro c h; cases h) (does_load rfl (run_load1 f_is1_data hc')) fun a hA h6 => ?_
    refine i_do (v := .int .i64 ((k : Int) - 1)) hF hA rfl rfl rfl (by intro c h; cases h) (does_move rfl) fun a hA h7 => ?_
    refine i_do (v := .pointer (some ⟨b1, o1 + (k - 1) * 11, none⟩)) hF hA rfl rfl rfl (by intro c h; cases h) (does_indexD (k := k - 1) Tryz.underlying28 (by kernel_rfl) rfl rfl (by omega) lt1 (by omega)) fun a hA h8 => ?_
    have hbW : Below wA.heap.size wA W' := (hb.trans (hW.mono hb.size)).trans hKp.1
    refine i_do (v := .agg (t1.d.cells t1.ts.length).toArray) hF hA rfl rfl rfl (by intro c h; cases h) (does_load rfl (run_loadS f_isS_dat _ rfl (fun j v hj => (hbW.cell Ht1.1).trans (Ht1.2 j v hj)))) fun a hA h9 => ?_
    have hlen : pre.length < ts.length := by
      have := congrArg List.length hpre
      simp only [List.length_map, List.length_reverse, List.length_drop] at this
      omega
    refine i_yield (k := l) (vs := [.int .i64 ((k : Int) - 1), .agg (t1.d.cells t1.ts.length).toArray]) (R := fun b W2 => (b = true ∧ J (pre ++ [⟨((k : Int) - 1, t1), rt1⟩]) W2 ∧ KpB wA.heap.size Bs W' W2) ∨ (b = false ∧ Jx (pre ++ [⟨((k : Int) - 1, t1), rt1⟩]) W2)) hF rfl hA rfl rfl rfl (by intro c h; cases h) (calls_yield rfl rfl) ?_ ?_
    · have := hY pre ⟨((k : Int) - 1, t1), rt1⟩ W' hJp hlen
      obtain ⟨fn, tmps, assign, body, e1, e2⟩ := this
      refine ⟨fn, tmps, assign, body, e1, e2.mono ?_⟩
      rintro e W2 (⟨rfl, h1, h2⟩ | ⟨rfl, h1⟩)
      · exact ⟨true, rfl, .inl ⟨rfl, h1, h2⟩⟩
      · exact ⟨false, rfl, .inr ⟨rfl, h1⟩⟩
    · rintro b W2 hR2 a hA h10
      refine i_do (v := .bool (!b)) hF hA rfl rfl rfl (by intro c h; cases h) (does_un rfl un_not) fun a hA h11 => ?_
      refine wpListIn_nil (hK5 _ _ ?_)
      have hdd : a.defers = [] := by rw [h11, h10, h9, h8, h7, h6, h5, h4, h3, h2, hd]
      rcases hR2 with ⟨rfl, hJ2, hK2'⟩ | ⟨rfl, hJx2⟩
      · refine wpIn_cond_false (hA.ev rfl) (wpIn_skip (hK4 _ _ (wpIn_region_lit ?_)))
        refine i_do (v := .int .i64 ((k : Int) - 1)) hF hA rfl rfl rfl (by intro c h; cases h) (does_move rfl) fun a hA g1 => ?_
        refine i_do (v := .int .i64 (((k - 1 : Nat) : Int) - 1)) hF hA rfl rfl rfl (by intro c h; cases h) (does_bin rfl rfl (ar_sub ((in_i64 (by omega) (by omega)).trans (by omega)))) fun a hA g2 => ?_
        refine i_do (v := .int .i64 (((k - 1 : Nat) : Int) - 1)) hF hA rfl rfl rfl (by intro c h; cases h) (does_assign rfl) fun a hA g3 => ?_
        refine wpListIn_nil ?_
        refine ⟨k - 1, by omega, by omega, hA.keep _ ⟨rfl, rfl, rfl, trivial⟩, by rw [g3, g2, g1, hdd], hKp.trans hK2', _, hJ2, ?_⟩
        rw [List.map_append, hpre, List.drop_eq_getElem_cons (show k - 1 < ts.length by omega), List.reverse_cons, show k - 1 + 1 = k by omega]
        congr 1
        have := (List.getElem?_eq_some_iff.1 it1).2
        rw [this]
        rfl
      · refine wpIn_cond_true (hA.ev rfl) (wpIn_ret ?_)
        refine hret _ _ ?_
        exact ends (rs := []) (vs := []) (v := .tuple #[]) (hA.sl hdd) rfl .nil rfl ⟨⟨_, rfl⟩, .inr ⟨_, trivial, hJx2⟩⟩
  · have hq' := of_decide_eq_false hq
    refine wpIn_exit ?_
    obtain rfl : k = 0 := by omega
    refine hnorm _ _ ?_
    exact ends (rs := []) (vs := []) (v := .tuple #[]) (hA.sl (by rw [h3, h2, hd])) rfl .nil rfl ⟨⟨_, rfl⟩, .inl ⟨pre, hpre, hJp⟩⟩
theorem back_any {w : World} {so : Option Addr} {k ca : Nat} : Calls Tryz.prog 74 #[.slice so k ca] w fun e w' => e = .returned (.func (.func 95) #[] #[.pointer (some ⟨w.heap.size, 0, none⟩)]) ∧ w' = w.alloc (.cells #[.slice so k ca] 28) := by
  refine walk_of (l := [(0, .slice so k ca)]) Tryz.func74 rfl Tryz.ntmps74 rfl rfl ?_
  intro Q hret hnorm hP a hA
  refine wp_seq_k (fun K1 hK1 => ?_)
  refine wp_region_lit ?_
  refine seq_do (v := .pointer (some ⟨w.heap.size, 0, none⟩)) (w' := w.alloc (.cells #[.slice so k ca] 28)) hA rfl rfl rfl (does_box (vs := [.slice so k ca]) rfl rfl) fun a hA => ?_
  refine seq_do hA rfl rfl rfl (does_assign rfl) fun a hA => ?_
  refine seq_end (hK1 _ _ (wp_seq_k (fun K2 hK2 => wp_region_lit ?_)))
  refine seq_do hA rfl rfl rfl (does_makeFunc rfl) fun a hA => ?_
  refine seq_do hA rfl rfl rfl (does_assign rfl) fun a hA => ?_
  refine seq_end (hK2 _ _ (wp_ret (hret _ _ ?_)))
  exact ends (rs := [.tmp 2]) hA rfl (.cons (res_tmp rfl) .nil) rfl ⟨rfl, rfl⟩
def ZC : List Value := [.int .i64 0, .int .i64 0, .bool false, .slice none 0 0, .slice none 0 0, .bool false, .slice none 0 0, .slice none 0 0, .string ⟨#[]⟩, .slice none 0 0, .slice none 0 0]
theorem two_objs {g1 g2 : Nat} {v1 v2 : Array Value} {t : TypeId} : ∀ c ∈ [Ck.obj g1 (.cells v1 t), Ck.obj g2 (.cells v2 t)], ∃ g vs t, c = Ck.obj g (.cells vs t) := by
  intro c hc
  simp only [List.mem_cons, List.not_mem_nil, or_false] at hc
  rcases hc with rfl | rfl
  · exact ⟨_, _, _, rfl⟩
  · exact ⟨_, _, _, rfl⟩
/-- The last datum so far lies in the box. -/
def LinkI (w : World) (g3 g4 : Nat) (u : Tr) (pre : List (Al w)) (W : World) : Prop := ∃ z : Dt, Mg w W [.obj g4 (.cells ZC.toArray 30), .obj g3 (.cells (z.d.cells z.ts.length).toArray 30)] ∧ z.rd W ∧ z.at_ (fun b => b ≠ g3 ∧ b ≠ g4) ∧ z.tr = linkT ((pre.map (fun x => x.1.2.tr)).reverse) u
theorem linkI_own (w : World) (g3 g4 : Nat) (u : Tr) (B : Nat) (hB : w.heap.size ≤ B) : OwnFrom B (LinkI w g3 g4 u) := by
  rintro pre W W' row ⟨z, hM, hr, ha, ht⟩ hg hrow
  exact ⟨z, hM.calm hg (fun r e => ⟨Nat.le_trans hB (hrow r e).1, (hrow r e).2⟩) two_objs, Dt.kept (kept_calm hg (fun r e => (hrow r e).2)) _ hr (Dt.at_true _), ha, ht⟩
set_option maxRecDepth 100000 in
set_option maxHeartbeats 1000000 in
theorem linked_any {w : World} {so : Option Addr} {ca : Nat} {ts : List Dt} {u : Dt} (hR : Rt w so ts) (hD : ∀ t ∈ ts, t.rd w) (hu : u.rd w) (hl : ts.length ≤ 1000000000) : Calls Tryz.prog 53 #[.slice so ts.length ca, .agg (u.d.cells u.ts.length).toArray] w fun e w' => ∃ t2 : Dt, e = .returned (.agg (t2.d.cells t2.ts.length).toArray) ∧ (t2.rd w' ∧ t2.tr = linkT (ts.map Dt.tr) u.tr) ∧ Below w.heap.size w w' := by
  refine (callsIn_wide (n := 5)).1 ?_
  have hF : ∀ f, Fence.wide.fn f := fun _ => trivial
  refine i_walkM (l := [(0, .slice so ts.length ca), (1, .agg (u.d.cells u.ts.length).toArray)]) Tryz.func53 rfl trivial rfl rfl rfl rfl ?_
  intro Q hret a hA hdf
  have hM : Mg w w [] := Mg.start w
  refine i_seq fun K1 hK1 => wpIn_region_lit ?_
  refine i_new (vs := u.d.cells u.ts.length) (t := 30) hF hA hM rfl rfl rfl (by intro c h; cases h) (fun g => .pointer (some ⟨g, 0, none⟩)) (does_box rfl rfl) (by decide) ?_
  intro g3 W1 hM hg3 hg3' hB1 _ a hA h2
  refine i_new (vs := ZC) (t := 30) hF hA hM rfl rfl rfl (by intro c h; cases h) (fun g => .pointer (some ⟨g, 0, none⟩)) (does_alloc (z := .agg ZC.toArray) (by kernel_rfl) rfl) (by decide) ?_
  intro g4 W2 hM hg4 hg4' hB2 _ a hA h3
  refine wpListIn_nil (hK1 _ _ (i_seq fun K2 hK2 => i_seq fun K3 hK3 => wpIn_region_lit ?_))
  refine i_do (v := .slice so ts.length ca) hF hA rfl rfl rfl (by intro c h; cases h) (does_move rfl) fun a hA h4 => ?_
  refine i_call (R := fun W3 => W3 = W2.alloc (.cells #[.slice so ts.length ca] 28)) hF rfl hA rfl rfl rfl (by intro c h; cases h) (enters_func rfl rfl (fun w => by kernel_rfl)) (callsIn_wide.2 back_any) ?_
  rintro W3 hW3 a hA h5
  refine wpListIn_nil (hK3 _ _ (wpIn_block ?_))
  have hB3 : Below W2.heap.size W2 W3 := hW3 ▸ (Below.refl _ W2).alloc (Nat.le_refl _) _
  have hs3 : W3.heap.size = W2.heap.size + 1 := by rw [hW3]; simp
  have hc3 : W3.cell? ⟨W2.heap.size, 0, none⟩ = some (.slice so ts.length ca) := by
    rw [hW3, cell_of_row _ _ _ _ _ _ (heap_alloc_new W2 _)]; rfl
  replace hM := hM.call hB3
  have hw2 : w.heap.size ≤ W2.heap.size := by omega
  have hur : u.rd W3 := Dt.keep hM.bel _ hu
  have hua : u.at_ (fun b => b ≠ g3 ∧ b ≠ g4) := Dt.at_mono (fun b hb => by constructor <;> omega) _ (Dt.at_lt _ hu)
  refine wpIn_rangeFunc_ownH (F := Fence.wide) rfl (by decide) (gf := 95) (lb := #[.pointer (some ⟨W2.heap.size, 0, none⟩)]) (hA.ev rfl) trivial (fun us w => by kernel_rfl)
    (back_stops hR hD hM.bel hc3 (by omega) hl _) KpB.trans ?hkb (Below.refl _ _) (fun _ => rfl)
    (LinkI w g3 g4 u.tr) (fun _ _ _ => False) (linkI_own w g3 g4 u.tr _ (by omega)) (fun _ _ _ _ _ hs _ _ => hs)
    ⟨u, hM, hur, hua, rfl⟩
    (fun x a' W => ∃ Bx, Sd a' 16 [(3, .pointer (some ⟨g3, 0, none⟩)), (4, .pointer (some ⟨g4, 0, none⟩)), (6, .pointer (some ⟨Bx, 0, none⟩))] ∧ Here W Bx 0 (x.1.2.d.cells x.1.2.ts.length))
    (fun x a' _ X Y row hs hg hr => by obtain ⟨Bx, h1, h2⟩ := hs; exact ⟨Bx, h1, h2.kept (kept_calm hg (fun r e => (hr r e).2))⟩)
    ?assign ?body ?done ?stop
  case hkb =>
    intro W l o o' hl1 hl2 hl3 _
    refine ⟨⟨rfl, rfl, rfl, (grownBy_putObj' W l o').size, fun k hk => ?_⟩, fun v hv => ?_⟩
    · by_cases hk2 : k < W.heap.size
      · exact (grownBy_putObj' W l o').block k hk2 (fun e => by cases e; omega)
      · have := (Array.getElem?_eq_some_iff.1 hl2).1; omega
    · exact (grownBy_putObj' W l o').cell hv (fun e => by have e' : W2.heap.size = l := Option.some.inj e; omega)
  case assign =>
    rintro l pre x W K ⟨z, hMz, hrz, haz, htz⟩ hK
    have hA1 : Sd { tmps := (a.tmps.setIfInBounds 9 (.int .i64 x.1.1)).setIfInBounds 10 (.agg (x.1.2.d.cells x.1.2.ts.length).toArray), defers := [] } 16 _ := Sl.put (Sl.put hA (d := 9) rfl (.int .i64 x.1.1)) (d := 10) rfl (.agg (x.1.2.d.cells x.1.2.ts.length).toArray)
    have hF2 : ∀ f, (Fence.wide.inRound l).fn f := fun _ => trivial
    have hxr : x.1.2.rd W := Dt.keep hMz.bel _ x.2
    simp only [encA, List.zip_toArray, List.zip_cons_cons, List.zip_nil_left, List.zip_nil_right, List.foldl_toArray', List.foldl_toArray, List.foldl_cons, List.foldl_nil]
    refine wpIn_region_lit ?_
    refine i_new (a := { tmps := (a.tmps.setIfInBounds 9 (.int .i64 x.1.1)).setIfInBounds 10 (.agg (x.1.2.d.cells x.1.2.ts.length).toArray), defers := [] }) (vs := ZC) (t := 30) hF2 hA1 hMz rfl rfl rfl (by intro c h; cases h) (fun g => .pointer (some ⟨g, 0, none⟩)) (does_alloc (z := .agg ZC.toArray) (by kernel_rfl) rfl) (by decide) ?_
    intro Bx W6 hM6 hBx hBx' hB6 hK6 a6 hA6 _
    refine i_set (w' := W6.setCells Bx 0 (x.1.2.d.cells x.1.2.ts.length)) hF2 hA6 rfl rfl (by intro c h; cases h) (m_store rfl rfl rfl (by kernel_rfl) hM6 0 rfl rfl (cells_all x.1.2)) ?_
    have hM7 : Mg w (W6.setCells Bx 0 (x.1.2.d.cells x.1.2.ts.length)) (.obj Bx (.cells (x.1.2.d.cells x.1.2.ts.length).toArray 30) :: [.obj g4 (.cells ZC.toArray 30), .obj g3 (.cells (z.d.cells z.ts.length).toArray 30)]) := Mg.puts (x.1.2.d.cells x.1.2.ts.length) W6 _ ZC 0 hM6 0 rfl
    have hkp : Kept (· ≠ Bx) W6 (W6.setCells Bx 0 (x.1.2.d.cells x.1.2.ts.length)) := kept_set _ _ _ _
    have hks := hK6.trans (keeps_sets Bx (x.1.2.d.cells x.1.2.ts.length) W6 0)
    have hsW := hMz.bel.size
    have hbs := (hB6.mono hsW).trans (below_sets (B := w.heap.size) Bx (by omega) (x.1.2.d.cells x.1.2.ts.length) W6 0)
    revert hkp hM7 hks hbs
    generalize W6.setCells Bx 0 (x.1.2.d.cells x.1.2.ts.length) = W7
    intro hM7 hkp hks hbs
    refine wpListIn_nil (hK _ _ (hks.from _) ⟨hbs, fun v hv => hkp.2 _ _ _ (show W2.heap.size ≠ Bx by have := cell_lt hv; omega) ((hB6.cell (p := ⟨W2.heap.size, 0, none⟩) (cell_lt hv)).trans hv)⟩ ⟨z, hM7.sub (.cons _ (.refl _)), Dt.kept hkp _ (Dt.keep hB6 _ hrz) (Dt.at_mono (fun b hb => by intro e; omega) _ (Dt.at_lt _ hrz)), haz, htz⟩ ⟨Bx, hA6.keep _ ⟨rfl, rfl, rfl, trivial⟩, (Array.getElem?_eq_some_iff.1 (hM7.obj 0 rfl)).1, fun j v hj => by rw [Nat.zero_add]; exact hM7.cell 0 rfl j hj⟩)
  case body =>
    rintro l pre x a' W hl1 _ ⟨z, hMz, hrz, haz, htz⟩ ⟨Bx, hA, hH⟩ _
    have hF2 : ∀ f, (Fence.wide.inRound l).fn f := fun _ => trivial
    have hxr : x.1.2.rd W := Dt.keep hMz.bel _ x.2
    refine wpIn_block (wpIn_region_lit ?_)
    refine i_do (v := .agg (x.1.2.d.cells x.1.2.ts.length).toArray) hF2 hA rfl rfl rfl (by intro c h; cases h) (does_load rfl (run_loadS f_isS_dat _ rfl (fun j v hj => by have := hH.2 j v hj; rwa [Nat.zero_add] at this ⊢))) fun a hA h6 => ?_
    refine i_do (v := .agg (z.d.cells z.ts.length).toArray) hF2 hA rfl rfl rfl (by intro c h; cases h) (m_loadS hMz f_isS_dat rfl 1 rfl (cs := z.d.cells z.ts.length) rfl rfl) fun a hA h7 => ?_
    refine i_do (v := .slice (some ⟨W.heap.size, 0, none⟩) 2 2) (w' := W.alloc (.cells (cellsOf [x.1.2, z]).toArray 30)) hF2 hA rfl rfl rfl (by intro c h; cases h) (does_buildSlice rfl (by kernel_rfl)) fun a hA h8 => ?_
    obtain ⟨z2, hz2⟩ : ∃ z2 : Dt, z2 = pairD W.heap.size x.1.2 z := ⟨_, rfl⟩
    refine i_do (v := .agg (z2.d.cells z2.ts.length).toArray) hF2 hA rfl rfl rfl (by intro c h; cases h) (by rw [hz2, pairD_cells]; exact does_build rfl (fun w => by kernel_rfl)) fun a hA h9 => ?_
    have hB4 : Below W.heap.size W (W.alloc (.cells (cellsOf [x.1.2, z]).toArray 30)) := (Below.refl _ W).alloc (Nat.le_refl _) _
    have hM4 := hMz.call hB4
    have hnew := heap_alloc_new W (.cells (cellsOf [x.1.2, z]).toArray 30)
    have hK4 : KeepsOthers W (W.alloc (.cells (cellsOf [x.1.2, z]).toArray 30)) := KeepsOthers.alloc _ _
    have hs4 : (W.alloc (.cells (cellsOf [x.1.2, z]).toArray 30)).heap.size = W.heap.size + 1 := by simp
    have hg3W : g3 < W.heap.size := (Ck.lt (hMz.has 1 rfl) g3 rfl).2
    have hg4W : g4 < W.heap.size := (Ck.lt (hMz.has 0 rfl) g4 rfl).2
    have hsW := hMz.bel.size
    revert hB4 hM4 hnew hK4 hs4
    generalize W.alloc (.cells (cellsOf [x.1.2, z]).toArray 30) = W4
    intro hB4 hM4 hnew hK4 hs4
    refine i_set (w' := W4.setCells g3 0 (z2.d.cells z2.ts.length)) hF2 hA rfl rfl (by intro c h; cases h) (m_store rfl rfl rfl (by kernel_rfl) hM4 1 rfl rfl (cells_all z2)) ?_
    refine wpListIn_nil ?_
    have hkp : Kept (· ≠ g3) W4 (W4.setCells g3 0 (z2.d.cells z2.ts.length)) := kept_set _ _ _ _
    have hM5 : Mg w (W4.setCells g3 0 (z2.d.cells z2.ts.length)) [.obj g4 (.cells ZC.toArray 30), .obj g3 (.cells (z2.d.cells z2.ts.length).toArray 30)] := Mg.puts (z2.d.cells z2.ts.length) W4 _ (z.d.cells z.ts.length) 0 hM4 1 rfl
    have hx5 : x.1.2.rd (W4.setCells g3 0 (z2.d.cells z2.ts.length)) := Dt.keep hM5.bel _ x.2
    have hz5 : z.rd (W4.setCells g3 0 (z2.d.cells z2.ts.length)) := Dt.kept hkp _ (Dt.keep hB4 _ hrz) (Dt.at_mono (fun b hb => hb.1) _ haz)
    have hxa : x.1.2.at_ (fun b => b ≠ g3 ∧ b ≠ g4) := Dt.at_mono (fun b hb => by constructor <;> omega) _ (Dt.at_lt _ x.2)
    have hks := hK4.trans (keeps_sets g3 (z2.d.cells z2.ts.length) W4 0)
    have hbs := (hB4.mono hsW).trans (below_sets (B := w.heap.size) g3 (by omega) (z2.d.cells z2.ts.length) W4 0)
    revert hkp hM5 hx5 hz5 hks hbs
    generalize W4.setCells g3 0 (z2.d.cells z2.ts.length) = W5
    intro hkp hM5 hx5 hz5 hks hbs
    refine ⟨hks.from _, ⟨hbs, fun v hv => hkp.2 _ _ _ (show W2.heap.size ≠ g3 by omega) ((hB4.cell (p := ⟨W2.heap.size, 0, none⟩) (cell_lt hv)).trans hv)⟩, z2, hM5, ?_, ?_, ?_⟩
    · rw [hz2]
      refine pairD_rd (by have := hkp.1; omega) (fun p v hp => hkp.2 _ _ _ (show W.heap.size ≠ g3 by omega) ?_) hx5 hz5
      rw [cell_of_row _ _ _ _ _ _ hnew]
      simpa using hp
    · rw [hz2]
      exact pairD_at ⟨by omega, by omega⟩ hxa haz
    · rw [hz2, pairD_tr, List.map_append, List.reverse_append]
      show Tr.mk 8 0 Q6.zero ⟨#[]⟩ [] [x.1.2.tr, z.tr] = linkT (x.1.2.tr :: _) u.tr
      rw [htz]
      rfl
  case done =>
    rintro D xs W hD1 hS ⟨z, hMz, hrz, haz, htz⟩ hDf
    have hA2 : Sd { a with defers := { target := .collected D, args := #[] } :: a.defers } 16 _ := hA
    revert hA2
    generalize hae : ({ a with defers := { target := .collected D, args := #[] } :: a.defers } : Act) = a2
    intro hA2
    have had : a2.defers = [{ target := .collected D, args := #[] }] := by rw [← hae]; show _ :: a.defers = _; rw [h5, h4, h3, h2, hdf]
    refine hK2 _ _ (i_seq fun K6 hK6 => wpIn_region_lit ?_)
    refine i_do (v := .agg (z.d.cells z.ts.length).toArray) hF hA2 rfl rfl rfl (by intro c h; cases h) (m_loadS hMz f_isS_dat rfl 1 rfl (cs := z.d.cells z.ts.length) rfl rfl) fun a3 hA3 h6 => ?_
    refine i_set (w' := W.setCells g4 0 (z.d.cells z.ts.length)) hF hA3 rfl rfl (by intro c h; cases h) (m_store rfl rfl rfl (by kernel_rfl) hMz 0 rfl rfl (cells_all z)) ?_
    have hM5 : Mg w (W.setCells g4 0 (z.d.cells z.ts.length)) [.obj g4 (.cells (z.d.cells z.ts.length).toArray 30), .obj g3 (.cells (z.d.cells z.ts.length).toArray 30)] := Mg.puts (z.d.cells z.ts.length) W _ ZC 0 hMz 0 rfl
    have hz5 : z.rd (W.setCells g4 0 (z.d.cells z.ts.length)) := Dt.kept (kept_set _ _ _ _) _ hrz (Dt.at_mono (fun b hb => hb.2) _ haz)
    have hD5 := (keeps_sets g4 (z.d.cells z.ts.length) W 0).same D _ hDf rfl
    have hgr := grownBy_putObj' (W.setCells g4 0 (z.d.cells z.ts.length)) D (.deferred none)
    have hM6 := hM5.calm hgr (fun r e => by cases e; exact ⟨by omega, _, hD5, rfl⟩) two_objs
    have hz6 := Dt.kept (kept_calm hgr (fun r e => by cases e; exact ⟨_, hD5, rfl⟩)) _ hz5 (Dt.at_true _)
    refine wpListIn_nil (hK6 _ _ (wpIn_ret (hret _ _ ?_)))
    show LeavesInM _ _ _ _ _ _ a3.defers .returning _
    rw [h6, had]
    refine ⟨by simp, .inl ⟨D, _, rfl, run_takeDeferred hD5, ?_⟩⟩
    have hfin : (fun (e : Ending) (w' : World) => ∃ t2 : Dt, e = .returned (.agg (t2.d.cells t2.ts.length).toArray) ∧ (t2.rd w' ∧ t2.tr = linkT (ts.map Dt.tr) u.tr) ∧ Below w.heap.size w w') (.returned (.agg (z.d.cells z.ts.length).toArray)) ((W.setCells g4 0 (z.d.cells z.ts.length)).putObj D (.deferred none)) := by
      refine ⟨z, rfl, ⟨hz6, ?_⟩, hM6.bel⟩
      rw [htz]
      have e1 : xs.map (fun x => x.1.2.tr) = (xs.map (fun x => x.1.2)).map Dt.tr := by rw [List.map_map]; rfl
      rw [e1, show xs.map (fun x => x.1.2) = ts.reverse from hS, List.map_reverse, List.reverse_reverse]
    exact (ends (P := Tryz.prog) (fn := Tryz.f53) (Z := (fun (e : Ending) (w' : World) => ∃ t2 : Dt, e = .returned (.agg (t2.d.cells t2.ts.length).toArray) ∧ (t2.rd w' ∧ t2.tr = linkT (ts.map Dt.tr) u.tr) ∧ Below w.heap.size w w')) (v := .agg (z.d.cells z.ts.length).toArray) (rs := [.cell 4 30]) (vs := [.agg (z.d.cells z.ts.length).toArray]) hA3 rfl (.cons (res_cellS hM6 f_isS_dat rfl 0 rfl (cs := z.d.cells z.ts.length) rfl rfl) .nil) rfl hfin).2
  case stop =>
    rintro D c pre W _ _ h _
    exact h.elim
mutual
/-- How many nodes. -/
def nodesT : Tr → Nat
  | .mk _ _ _ _ _ ts => 1 + nodesL ts
def nodesL : List Tr → Nat
  | [] => 0
  | t :: ts => nodesT t + nodesL ts
end
mutual
/-- Not too deep. -/
def deepT (dp : Int) : Tr → Bool
  | .mk k _ _ _ _ ts => decide (dp ≤ 200) && deepL dp (decide (k = 8)) 0 ts
def deepL (dp : Int) (pr : Bool) (i : Nat) : List Tr → Bool
  | [] => true
  | t :: ts => deepT (if pr = true ∧ i = 1 then dp else dp + 1) t && deepL dp pr (i + 1) ts
end
def FitC (t : Tr) : Prop := ∀ dp left : Int, ((fitT dp left t).1 = true ↔ deepT dp t = true ∧ (nodesT t : Int) ≤ left) ∧ ((fitT dp left t).1 = true → (fitT dp left t).2 = left - nodesT t)
theorem fitC_list {dp : Int} {pr : Bool} : ∀ {ts : List Tr}, (∀ t ∈ ts, FitC t) → ∀ (i : Nat) (m : Int), 0 ≤ m → ((fitL dp pr i m ts).1 = true ↔ deepL dp pr i ts = true ∧ (nodesL ts : Int) ≤ m) ∧ ((fitL dp pr i m ts).1 = true → (fitL dp pr i m ts).2 = m - nodesL ts)
  | [], _, i, m, hm => by simp [fitL, deepL, nodesL, hm]
  | t :: ts, h, i, m, hm => by
    have h1 := h t List.mem_cons_self (if pr = true ∧ i = 1 then dp else dp + 1) m
    have hp := fit_pos t (if pr = true ∧ i = 1 then dp else dp + 1) m
    rw [fitL, deepL, nodesL]
    generalize (if pr = true ∧ i = 1 then dp else dp + 1) = D at h1 hp ⊢
    by_cases hc : (fitT D m t).1 = true
    · rw [if_pos hc]
      have h2 := fitC_list (dp := dp) (pr := pr) (fun x hx => h x (List.mem_cons_of_mem _ hx)) (i + 1) _ (hp hc)
      have h3 := h1.1.1 hc
      have h4 := h1.2 hc
      rw [h4] at h2 ⊢
      rw [Bool.and_eq_true, h3.1]
      refine ⟨⟨fun k => ?_, fun k => ?_⟩, fun k => ?_⟩
      · have := h2.1.1 k; exact ⟨⟨rfl, this.1⟩, by have := this.2; push_cast; omega⟩
      · exact h2.1.2 ⟨k.1.2, by have := k.2; push_cast at this; omega⟩
      · rw [h2.2 k]; push_cast; omega
    · rw [if_neg hc]
      refine ⟨⟨(fun k => by cases k), fun k => absurd (h1.1.2 ⟨?_, ?_⟩) hc⟩, (fun k => by cases k)⟩
      · have := k.1; rw [Bool.and_eq_true] at this; exact this.1
      · have := k.2; push_cast at this; omega
theorem fit_char : ∀ t : Tr, FitC t := by
  refine Tr.indT fun k n q s rl ts ih dp left => ?_
  rw [fitT, deepT, nodesT]
  by_cases hc : left - 1 < 0 ∨ 200 < dp
  · rw [if_pos hc]
    refine ⟨⟨(fun k => by cases k), fun k => ?_⟩, (fun k => by cases k)⟩
    have h1 := k.1
    have h2 := k.2
    rw [Bool.and_eq_true, decide_eq_true_eq] at h1
    push_cast at h2
    omega
  · rw [if_neg hc]
    have h2 := fitC_list (dp := dp) (pr := decide (k = 8)) ih 0 (left - 1) (by omega)
    rw [decide_eq_true (show dp ≤ 200 by omega), Bool.true_and]
    refine ⟨⟨fun k => ?_, fun k => ?_⟩, fun k => ?_⟩
    · have := h2.1.1 k; exact ⟨this.1, by have := this.2; push_cast; omega⟩
    · exact h2.1.2 ⟨k.1, by have := k.2; push_cast at this; omega⟩
    · rw [h2.2 k]; push_cast; omega
theorem nodes_link : ∀ (xs : List Tr) (z : Tr), nodesT (linkT xs z) = nodesL xs + xs.length + nodesT z
  | [], z => by simp [linkT, nodesL]
  | x :: xs, z => by rw [linkT, nodesT, nodesL, nodesL, nodesL, nodes_link xs z, nodesL, List.length_cons]; omega
theorem deep_link : ∀ (xs : List Tr) (z : Tr), deepT 1 (linkT xs z) = (xs.all (deepT 2) && deepT 1 z)
  | [], z => by simp [linkT]
  | x :: xs, z => by
    rw [linkT, deepT, deepL, deepL, deepL, List.all_cons]
    have : (if decide ((8 : Int) = 8) = true ∧ 0 = 1 then (1 : Int) else 1 + 1) = 2 := by decide
    rw [this]
    have : (if decide ((8 : Int) = 8) = true ∧ 0 + 1 = 1 then (1 : Int) else 1 + 1) = 1 := by decide
    rw [this, deep_link xs z]
    simp [Bool.and_assoc]
theorem all_link : ∀ (xs : List Tr) (z : Tr), allT shapeT (linkT xs z) = (xs.all (allT shapeT) && allT shapeT z)
  | [], z => by simp [linkT]
  | x :: xs, z => by
    rw [linkT, allT, allL, allL, allL, List.all_cons, all_link xs z]
    have : shapeT (.mk 8 0 Q6.zero ⟨#[]⟩ [] [x, linkT xs z]) = true := by rfl
    rw [this]
    simp [Bool.and_assoc]
theorem sound_char (t : Tr) : soundT shapeT t = true ↔ deepT 1 t = true ∧ nodesT t ≤ 20000 ∧ allT shapeT t = true := by
  unfold soundT
  rw [Bool.and_eq_true, (fit_char t 1 20000).1]
  constructor
  · rintro ⟨⟨h1, h2⟩, h3⟩; exact ⟨h1, by omega, h3⟩
  · rintro ⟨h1, h2, h3⟩; exact ⟨⟨h1, by omega⟩, h3⟩
theorem sound_link (xs : List Tr) (z : Tr) : soundT shapeT (linkT xs z) = true ↔ (xs.all (deepT 2) = true ∧ deepT 1 z = true) ∧ nodesL xs + xs.length + nodesT z ≤ 20000 ∧ xs.all (allT shapeT) = true ∧ allT shapeT z = true := by
  rw [sound_char, deep_link, nodes_link, all_link, Bool.and_eq_true, Bool.and_eq_true]
theorem long_unsound {xs : List Tr} {z : Tr} (h : 20000 < xs.length) : soundT shapeT (linkT xs z) = false := by
  apply Bool.eq_false_iff.2
  intro k
  have := ((sound_link xs z).1 k).2.1
  omega
/-! ### What the calls answer -/
def fitS (xs : List Tr) (z : Tr) : Tr × Int := if soundT shapeT (linkT xs z) = true then (linkT xs z, 0) else (zeroT, 4)
def ofS (xs : List Tr) : Tr := (fitS xs nilT).1
noncomputable def revS (t : Tr) : Tr × Int :=
  if soundT shapeT t = false then (zeroT, 2) else match asList t with
    | none => (zeroT, 10)
    | some xs => (linkT xs.reverse nilT, 0)
theorem fitS_long {xs : List Tr} {z : Tr} (h : 20000 < xs.length) : fitS xs z = (zeroT, 4) := by unfold fitS; rw [if_neg (by rw [long_unsound h]; decide)]
theorem fitS_yes {xs : List Tr} {z : Tr} (h : soundT shapeT (linkT xs z) = true) : fitS xs z = (linkT xs z, 0) := by unfold fitS; rw [if_pos h]
theorem fitS_no {xs : List Tr} {z : Tr} (h : soundT shapeT (linkT xs z) = false) : fitS xs z = (zeroT, 4) := by unfold fitS; rw [if_neg (by rw [h]; decide)]
theorem Rt.take {w : World} {so : Option Addr} {ts : List Dt} (h : Rt w so ts) (n : Nat) : Rt w so (ts.take n) := fun hne => by
  obtain ⟨b, o, e, h2⟩ := h (fun k => hne (by rw [k]; simp))
  refine ⟨b, o, e, fun i t hi => h2 i t ?_⟩
  rw [List.getElem?_take] at hi
  split at hi
  · exact hi
  · cases hi
theorem Rt.drop {w : World} {so : Option Addr} {ts : List Dt} (h : Rt w so ts) (cap n : Nat) (hc : ts.length ≤ cap) : Rt w (if cap = n then so else so.map (·.add (n * 11))) (ts.drop n) := fun hne => by
  have hlt : n < ts.length := by
    apply Classical.byContradiction
    intro k
    exact hne (List.drop_of_length_le (by omega))
  obtain ⟨b, o, e, h2⟩ := h (fun k => by rw [k] at hlt; simp at hlt)
  rw [if_neg (by omega), e]
  refine ⟨b, o + n * 11, by simp [addr_add], fun i t hi => ?_⟩
  rw [List.getElem?_drop] at hi
  have := h2 _ _ hi
  rwa [Nat.add_mul, ← Nat.add_assoc] at this
theorem asList_bulk {t : Tr} {xs : List Tr} (h : asList t = some xs) : Tr.bulks xs + xs.length + 1 = t.bulk := by
  rw [asList_some h, link_bulk]
  rfl
/-! ### The other way round -/
/-- So many from both ends are exchanged. -/
def RevI (ys zs : List Dt) (i : Nat) : Prop := zs.length = ys.length ∧ ∀ k, k < ys.length → zs[k]? = if k < i ∨ ys.length < k + 1 + i then ys[ys.length - 1 - k]? else ys[k]?
theorem revI_zero (ys : List Dt) : RevI ys ys 0 := ⟨rfl, fun k hk => by rw [if_neg (by omega)]⟩
theorem revI_end {ys zs : List Dt} {i : Nat} (h : RevI ys zs i) (hi : ys.length ≤ i + i + 1) : zs = ys.reverse := by
  apply List.ext_getElem?
  intro k
  by_cases hk : k < ys.length
  · rw [h.2 k hk, List.getElem?_reverse hk]
    by_cases hc : k < i ∨ ys.length < k + 1 + i
    · rw [if_pos hc]
    · rw [if_neg hc, show ys.length - 1 - k = k by omega]
  · rw [List.getElem?_eq_none (by rw [h.1]; omega), List.getElem?_eq_none (by rw [List.length_reverse]; omega)]
theorem revI_step {ys zs : List Dt} {i : Nat} {a b : Dt} (h : RevI ys zs i) (hi : i + i + 1 < ys.length) (ha : zs[i]? = some a) (hb : zs[ys.length - 1 - i]? = some b) : RevI ys ((zs.set i b).set (ys.length - 1 - i) a) (i + 1) := by
  refine ⟨by rw [List.length_set, List.length_set, h.1], fun k hk => ?_⟩
  have h1 := h.1
  rw [List.getElem?_set, List.getElem?_set, List.length_set]
  have ha2 := h.2 i (by omega)
  have hb2 := h.2 (ys.length - 1 - i) (by omega)
  rw [if_neg (by omega), ha] at ha2
  rw [if_neg (by omega), hb] at hb2
  by_cases e1 : ys.length - 1 - i = k
  · subst e1
    rw [if_pos rfl, if_pos (by omega), if_pos (by omega), ha2, show ys.length - 1 - (ys.length - 1 - i) = i by omega]
  · rw [if_neg e1]
    by_cases e2 : i = k
    · subst e2
      rw [if_pos rfl, if_pos (by omega), if_pos (by omega), hb2]
    · rw [if_neg e2, h.2 k hk]
      by_cases hc : k < i ∨ ys.length < k + 1 + i
      · rw [if_pos hc, if_pos (by omega)]
      · rw [if_neg hc, if_neg (by omega)]
theorem LiE_isS_30 : IsS Tryz.prog 30 11 := ⟨⟨_, Tryz.underlying30⟩, by kernel_rfl⟩
theorem allSound_b {w : World} {so : Option Addr} {ca : Nat} {ts : List Dt} (hR : Rt w so ts) (hD : ∀ t ∈ ts, t.rd w) (hl : ts.length ≤ 1000000000) (hT : Tabs8 w) {b : Bool} (h : (ts.all fun t => soundT shapeT t.tr) = b) : Calls Tryz.prog 49 #[.slice so ts.length ca] w fun e w' => e = .returned (.bool b) ∧ Below w.heap.size w w' := h ▸ allSound_any hR hD hl hT
theorem allSound_one {w : World} {so : Option Addr} {ca : Nat} {t : Dt} (hR : Rt w so [t]) (ht : t.rd w) (hT : Tabs8 w) {b : Bool} (h : soundT shapeT t.tr = b) : Calls Tryz.prog 49 #[.slice so 1 ca] w fun e w' => e = .returned (.bool b) ∧ Below w.heap.size w w' :=
  allSound_b (ts := [t]) hR (fun u hu => by rw [List.mem_singleton.1 hu]; exact ht) (by simp) hT (by rw [List.all_cons, List.all_nil, Bool.and_true]; exact h)
theorem itemsOf_or {w0 w : World} {t : Dt} (h0 : Below w0.heap.size w0 w) (ht0 : t.rd w0) {so : Option Addr} {ca : Nat} {ts : List Dt} (hR : Rt w so ts) (hD : ∀ t ∈ ts, t.rd w) (hl : ts.length ≤ 1000000000) (hb : t.tr.bulk ≤ 1000000000) (hT : Tabs8 w) : Calls Tryz.prog 24 #[.agg (t.d.cells t.ts.length).toArray, .slice so ts.length ca] w fun e w' => (∃ so' ca' ys, e = .returned (.tuple #[.slice so' (ys : List Dt).length ca', .int .i64 0]) ∧ ((soundT shapeT t.tr && (ts.all fun t => soundT shapeT t.tr)) = true ∧ asList t.tr = some (ys.map Dt.tr) ∧ (∀ x ∈ ys, x.rd w0) ∧ ys.length ≤ t.tr.bulk) ∧ Mg w w' [.row 30 11 (.slice so' ys.length ca') ys.length (cellsOf ys)]) ∨ (e = .returned (.tuple #[.slice none 0 0, .int .i64 10]) ∧ ((soundT shapeT t.tr && (ts.all fun t => soundT shapeT t.tr)) = true ∧ asList t.tr = none) ∧ Below w.heap.size w w') ∨ (e = .returned (.tuple #[.slice none 0 0, .int .i64 2]) ∧ (soundT shapeT t.tr && (ts.all fun t => soundT shapeT t.tr)) = false ∧ Below w.heap.size w w') := by
 have ht := Dt.keep h0 _ ht0
 have hM : Mg w w ([]) := Mg.start w
 refine walk_of (l := [(0, .agg (t.d.cells t.ts.length).toArray), (1, .slice so ts.length ca)]) Tryz.func24 rfl Tryz.ntmps24 rfl rfl ?_
 intro Q hret hnorm hP a hA
 refine wp_seq_k (fun K1 hK1 => ?_)
 refine wp_region_lit ?_
 refine s_new (vs := [.int .i64 t.d.k, .int .i64 t.d.n, .bool t.d.y.q.b1, .slice t.d.y.o1 t.d.y.q.t1.length t.d.y.c1, .slice t.d.y.o2 t.d.y.q.q1.length t.d.y.c2, .bool t.d.y.q.b2, .slice t.d.y.o3 t.d.y.q.t2.length t.d.y.c3, .slice t.d.y.o4 t.d.y.q.q2.length t.d.y.c4, .string t.d.s, .slice t.d.ro t.d.rl.length t.d.rc, .slice t.d.lo t.ts.length t.d.lc]) (t := 30) hA hM rfl rfl rfl (fun g => .pointer (some ⟨g, 0, none⟩)) (does_box rfl rfl) (by decide) ?_
 intro g2 w3 hM a hA
 refine seq_do hA rfl rfl rfl (does_assign rfl) ?_
 intro a hA
 refine seq_do hA rfl rfl rfl (does_assign rfl) ?_
 intro a hA
 refine seq_end ?_
 refine hK1 _ _ ?_
 refine wp_seq_k (fun K4 hK4 => ?_)
 refine wp_seq_k (fun K5 hK5 => ?_)
 refine wp_region_lit ?_
 refine seq_do hA rfl rfl rfl (m_loadS hM LiE_isS_30 rfl 0 rfl (cs := [.int .i64 t.d.k, .int .i64 t.d.n, .bool t.d.y.q.b1, .slice t.d.y.o1 t.d.y.q.t1.length t.d.y.c1, .slice t.d.y.o2 t.d.y.q.q1.length t.d.y.c2, .bool t.d.y.q.b2, .slice t.d.y.o3 t.d.y.q.t2.length t.d.y.c3, .slice t.d.y.o4 t.d.y.q.q2.length t.d.y.c4, .string t.d.s, .slice t.d.ro t.d.rl.length t.d.rc, .slice t.d.lo t.ts.length t.d.lc]) rfl rfl) ?_
 intro a hA
 refine s_litE (e := 30) (sz := 11) (m := 1) (vs := cellsOf [t]) hA hM rfl rfl rfl (does_buildSlice rfl (by kernel_rfl)) rfl rfl (.inl (by decide)) ?_
 intro g6 w7 hM a hA
 rcases Bool.eq_false_or_eq_true (soundT shapeT t.tr) with hb8 | hb8
 · refine seq_call hA rfl rfl rfl (enters_func rfl rfl (fun w => by kernel_rfl)) (allSound_one (rt_own (hM.has 0 rfl)).1 (Dt.keep hM.bel _ ht) (hT.below hM.bel) hb8) ?_
   rintro _ w10 ⟨rfl, hb9⟩
   replace hM := hM.call hb9
   refine ⟨_, rfl, ?_⟩
   intro a hA
   refine seq_do (v := .bool false) hA rfl rfl rfl (does_un rfl un_not) ?_
   intro a hA
   refine seq_do hA rfl rfl rfl (does_move rfl) ?_
   intro a hA
   refine seq_do hA rfl rfl rfl (does_move rfl) ?_
   intro a hA
   rcases Bool.eq_false_or_eq_true ((ts.all fun t => soundT shapeT t.tr)) with hb11 | hb11
   · refine seq_call hA rfl rfl rfl (enters_func rfl rfl (fun w => by kernel_rfl)) (allSound_b (hR.below hM.bel) (fun t ht => Dt.keep hM.bel _ (hD t ht)) hl (hT.below hM.bel) hb11) ?_
     rintro _ w13 ⟨rfl, hb12⟩
     replace hM := hM.call hb12
     refine ⟨_, rfl, ?_⟩
     intro a hA
     refine seq_do (v := .bool false) hA rfl rfl rfl (does_un rfl un_not) ?_
     intro a hA
     refine seq_do (v := .bool false) hA rfl rfl rfl (does_pick rfl rfl rfl rfl) ?_
     intro a hA
     refine seq_end ?_
     refine hK5 _ _ ?_
     refine wp_cond_false (hA.ev rfl) ?_
     refine wp_skip ?_
     refine hK4 _ _ ?_
     refine wp_seq_k (fun K14 hK14 => ?_)
     refine wp_region_lit ?_
     refine seq_do hA rfl rfl rfl (m_loadS hM LiE_isS_30 rfl 1 rfl (cs := [.int .i64 t.d.k, .int .i64 t.d.n, .bool t.d.y.q.b1, .slice t.d.y.o1 t.d.y.q.t1.length t.d.y.c1, .slice t.d.y.o2 t.d.y.q.q1.length t.d.y.c2, .bool t.d.y.q.b2, .slice t.d.y.o3 t.d.y.q.t2.length t.d.y.c3, .slice t.d.y.o4 t.d.y.q.q2.length t.d.y.c4, .string t.d.s, .slice t.d.ro t.d.rl.length t.d.rc, .slice t.d.lo t.ts.length t.d.lc]) rfl rfl) ?_
     intro a hA
     rcases Bool.eq_false_or_eq_true ((asList t.tr).isSome) with hb15 | hb15
     · refine seq_call hA rfl rfl rfl (enters_func rfl rfl (fun w => by kernel_rfl)) (unlinked_some (h0.trans (hM.bel.mono h0.size)) ht0 (sound_all hb8) hb hb15) ?_
       rintro _ w17 ⟨so7, ca7, ys, rfl, ⟨hy1, hy2, hy3⟩, hM7⟩
       replace hM : Mg w w17 (.row 30 11 (.slice so7 ys.length ca7) ys.length (cellsOf ys) :: .row 30 11 (.slice (some ⟨g6, 0, none⟩) 1 1) 1 (cellsOf [t]) :: .obj g2 (.cells (t.d.cells t.ts.length).toArray 30) :: []) := (hM.both hM7 (noBld_cons (by simp) (noBld_cons (by simp) (noBld_quiet quietL_nil))) (noBld_cons (by simp) (noBld_quiet quietL_nil)))
       refine ⟨_, rfl, ?_⟩
       intro a hA
       refine seq_do (v := .slice so7 ys.length ca7) hA rfl rfl rfl (does_extract (vs := [.slice so7 ys.length ca7, .int .i64 0]) rfl rfl) ?_
       intro a hA
       refine seq_do (v := .int .i64 0) hA rfl rfl rfl (does_extract (vs := [.slice so7 ys.length ca7, .int .i64 0]) rfl rfl) ?_
       intro a hA
       refine seq_do hA rfl rfl rfl (does_assign rfl) ?_
       intro a hA
       refine seq_do hA rfl rfl rfl (does_assign rfl) ?_
       intro a hA
       refine seq_end ?_
       refine hK14 _ _ ?_
       refine wp_ret ?_
       refine hret _ _ ?_
       refine ends (v := .tuple #[.slice so7 ys.length ca7, .int .i64 0]) hA rfl (.cons (res_tmp rfl) (.cons (res_tmp rfl) .nil)) rfl ?_
       replace hM : Mg w w17 (.row 30 11 (.slice so7 ys.length ca7) ys.length (cellsOf ys) :: []) := by
         have h9 := hM.sub (.cons_cons _ (.cons _ (.cons _ (.refl _))))
         exact h9
       exact .inl ⟨_, _, ys, rfl, ⟨(by rw [hb8, hb11]; rfl), hy1, hy2, hy3⟩, hM⟩
     · refine seq_call hA rfl rfl rfl (enters_func rfl rfl (fun w => by kernel_rfl)) (unlinked_none (h0.trans (hM.bel.mono h0.size)) ht0 (sound_all hb8) hb hb15) ?_
       rintro _ w19 ⟨rfl, hb18⟩
       replace hM := hM.call hb18
       refine ⟨_, rfl, ?_⟩
       intro a hA
       refine seq_do (v := .slice none 0 0) hA rfl rfl rfl (does_extract (vs := [.slice none 0 0, .int .i64 10]) rfl rfl) ?_
       intro a hA
       refine seq_do (v := .int .i64 10) hA rfl rfl rfl (does_extract (vs := [.slice none 0 0, .int .i64 10]) rfl rfl) ?_
       intro a hA
       refine seq_do hA rfl rfl rfl (does_assign rfl) ?_
       intro a hA
       refine seq_do hA rfl rfl rfl (does_assign rfl) ?_
       intro a hA
       refine seq_end ?_
       refine hK14 _ _ ?_
       refine wp_ret ?_
       refine hret _ _ ?_
       refine ends (v := .tuple #[.slice none 0 0, .int .i64 10]) hA rfl (.cons (res_tmp rfl) (.cons (res_tmp rfl) .nil)) rfl ?_
       exact .inr (.inl ⟨rfl, ⟨(by rw [hb8, hb11]; rfl), Option.isSome_eq_false_iff.1 hb15 |> Option.isNone_iff_eq_none.1⟩, hM.bel⟩)
   · refine seq_call hA rfl rfl rfl (enters_func rfl rfl (fun w => by kernel_rfl)) (allSound_b (hR.below hM.bel) (fun t ht => Dt.keep hM.bel _ (hD t ht)) hl (hT.below hM.bel) hb11) ?_
     rintro _ w21 ⟨rfl, hb20⟩
     replace hM := hM.call hb20
     refine ⟨_, rfl, ?_⟩
     intro a hA
     refine seq_do (v := .bool true) hA rfl rfl rfl (does_un rfl un_not) ?_
     intro a hA
     refine seq_do (v := .bool true) hA rfl rfl rfl (does_pick rfl rfl rfl rfl) ?_
     intro a hA
     refine seq_end ?_
     refine hK5 _ _ ?_
     refine wp_cond_true (hA.ev rfl) ?_
     refine wp_seq_k (fun K22 hK22 => ?_)
     refine wp_region_lit ?_
     refine seq_do hA rfl rfl rfl (does_assign rfl) ?_
     intro a hA
     refine seq_do hA rfl rfl rfl (does_assign rfl) ?_
     intro a hA
     refine seq_end ?_
     refine hK22 _ _ ?_
     refine wp_ret ?_
     refine hret _ _ ?_
     refine ends (v := .tuple #[.slice none 0 0, .int .i64 2]) hA rfl (.cons (res_tmp rfl) (.cons (res_tmp rfl) .nil)) rfl ?_
     exact .inr (.inr ⟨rfl, by rw [hb8, hb11]; rfl, hM.bel⟩)
 · refine seq_call hA rfl rfl rfl (enters_func rfl rfl (fun w => by kernel_rfl)) (allSound_one (rt_own (hM.has 0 rfl)).1 (Dt.keep hM.bel _ ht) (hT.below hM.bel) hb8) ?_
   rintro _ w24 ⟨rfl, hb23⟩
   replace hM := hM.call hb23
   refine ⟨_, rfl, ?_⟩
   intro a hA
   refine seq_do (v := .bool true) hA rfl rfl rfl (does_un rfl un_not) ?_
   intro a hA
   refine seq_do hA rfl rfl rfl (does_move rfl) ?_
   intro a hA
   refine seq_skip hA rfl rfl rfl ?_
   intro a hA
   refine seq_skip hA rfl rfl rfl ?_
   intro a hA
   refine seq_skip hA rfl rfl rfl ?_
   intro a hA
   refine seq_do (v := .bool true) hA rfl rfl rfl (does_pick rfl rfl rfl rfl) ?_
   intro a hA
   refine seq_end ?_
   refine hK5 _ _ ?_
   refine wp_cond_true (hA.ev rfl) ?_
   refine wp_seq_k (fun K25 hK25 => ?_)
   refine wp_region_lit ?_
   refine seq_do hA rfl rfl rfl (does_assign rfl) ?_
   intro a hA
   refine seq_do hA rfl rfl rfl (does_assign rfl) ?_
   intro a hA
   refine seq_end ?_
   refine hK25 _ _ ?_
   refine wp_ret ?_
   refine hret _ _ ?_
   refine ends (v := .tuple #[.slice none 0 0, .int .i64 2]) hA rfl (.cons (res_tmp rfl) (.cons (res_tmp rfl) .nil)) rfl ?_
   exact .inr (.inr ⟨rfl, by rw [hb8]; rfl, hM.bel⟩)
theorem items_some {w0 w : World} {t : Dt} (h0 : Below w0.heap.size w0 w) (ht : t.rd w0) (hb : t.tr.bulk ≤ 1000000000) (hT : Tabs8 w) (hs : soundT shapeT t.tr = true) (h : (asList t.tr).isSome = true) : Calls Tryz.prog 24 #[.agg (t.d.cells t.ts.length).toArray, .slice none 0 0] w fun e w' => ∃ so' ca' ys, e = .returned (.tuple #[.slice so' (ys : List Dt).length ca', .int .i64 0]) ∧ (asList t.tr = some (ys.map Dt.tr) ∧ (∀ x ∈ ys, x.rd w0) ∧ ys.length ≤ t.tr.bulk) ∧ Mg w w' [.row 30 11 (.slice so' ys.length ca') ys.length (cellsOf ys)] := by
  refine (itemsOf_or (ts := []) h0 ht (so := none) (ca := 0) (fun k => absurd rfl k) (fun t h => by cases h) (by decide) hb hT).mono ?_
  rintro e w' (⟨so', ca', ys, h1, h2, h3⟩ | ⟨_, h2, _⟩ | ⟨_, h2, _⟩)
  · exact ⟨so', ca', ys, h1, h2.2, h3⟩
  · rw [h2.2] at h; cases h
  · rw [hs] at h2; cases h2
theorem items_none {w0 w : World} {t : Dt} (h0 : Below w0.heap.size w0 w) (ht : t.rd w0) (hb : t.tr.bulk ≤ 1000000000) (hT : Tabs8 w) (hs : soundT shapeT t.tr = true) (h : (asList t.tr).isSome = false) : Calls Tryz.prog 24 #[.agg (t.d.cells t.ts.length).toArray, .slice none 0 0] w fun e w' => e = .returned (.tuple #[.slice none 0 0, .int .i64 10]) ∧ Below w.heap.size w w' := by
  refine (itemsOf_or (ts := []) h0 ht (so := none) (ca := 0) (fun k => absurd rfl k) (fun t h => by cases h) (by decide) hb hT).mono ?_
  rintro e w' (⟨so', ca', ys, h1, h2, h3⟩ | ⟨h1, h2, h3⟩ | ⟨_, h2, _⟩)
  · rw [h2.2.1] at h; cases h
  · exact ⟨h1, h3⟩
  · rw [hs] at h2; cases h2
theorem items_bad {w0 w : World} {t : Dt} (h0 : Below w0.heap.size w0 w) (ht : t.rd w0) (hb : t.tr.bulk ≤ 1000000000) (hT : Tabs8 w) (hs : soundT shapeT t.tr = false) : Calls Tryz.prog 24 #[.agg (t.d.cells t.ts.length).toArray, .slice none 0 0] w fun e w' => e = .returned (.tuple #[.slice none 0 0, .int .i64 2]) ∧ Below w.heap.size w w' := by
  refine (itemsOf_or (ts := []) h0 ht (so := none) (ca := 0) (fun k => absurd rfl k) (fun t h => by cases h) (by decide) hb hT).mono ?_
  rintro e w' (⟨so', ca', ys, h1, h2, h3⟩ | ⟨h1, h2, h3⟩ | ⟨h1, h2, h3⟩)
  · rw [hs] at h2; cases h2.1
  · rw [hs] at h2; cases h2.1
  · exact ⟨h1, h3⟩
theorem LiF_isS_30 : IsS Tryz.prog 30 11 := ⟨⟨_, Tryz.underlying30⟩, by kernel_rfl⟩
theorem listOf_any {w : World} {so : Option Addr} {ca : Nat} {ts : List Dt} (hR : Rt w so ts) (hD : ∀ t ∈ ts, t.rd w) (hb : Tr.bulks (ts.map Dt.tr) ≤ 400000000) : Calls Tryz.prog 27 #[.slice so ts.length ca] w fun e w' => ∃ t2 : Dt, e = .returned (.agg (t2.d.cells t2.ts.length).toArray) ∧ (t2.rd w' ∧ t2.at_ (w.heap.size ≤ ·) ∧ t2.tr = linkT (ts.map Dt.tr) nilT) ∧ Below w.heap.size w w' := by
 have hbl := bulks_len ts
 have hnb : nilD.tr.bulk = 1 := by rw [nilD_tr]; rfl
 have hM : Mg w w ([]) := Mg.start w
 refine walk_of (l := [(0, .slice so ts.length ca)]) Tryz.func27 rfl Tryz.ntmps27 rfl rfl ?_
 intro Q hret hnorm hP a hA
 refine wp_seq_k (fun K1 hK1 => ?_)
 refine wp_region_lit ?_
 refine s_new (vs := [.int .i64 0, .int .i64 0, .bool false, .slice none 0 0, .slice none 0 0, .bool false, .slice none 0 0, .slice none 0 0, .string (⟨#[]⟩), .slice none 0 0, .slice none 0 0]) (t := 30) hA hM rfl rfl rfl (fun g => .pointer (some ⟨g, 0, none⟩)) (does_alloc (z := .agg #[.int .i64 0, .int .i64 0, .bool false, .slice none 0 0, .slice none 0 0, .bool false, .slice none 0 0, .slice none 0 0, .string (⟨#[]⟩), .slice none 0 0, .slice none 0 0]) (by kernel_rfl) rfl) (by decide) ?_
 intro g2 w3 hM a hA
 refine seq_end ?_
 refine hK1 _ _ ?_
 refine wp_seq_k (fun K4 hK4 => ?_)
 refine wp_region_lit ?_
 refine seq_do hA rfl rfl rfl (does_move rfl) ?_
 intro a hA
 refine seq_call hA rfl rfl rfl (enters_func rfl rfl (fun w => by kernel_rfl)) (end_any) ?_
 rintro _ w6 ⟨rfl, hb5⟩
 replace hM := hM.call hb5
 refine ⟨_, rfl, ?_⟩
 intro a hA
 have hlt7 := (Ck.lt (hM.has 0 rfl) g2 rfl).2
 have hzt3 := hM.bel.size
 refine seq_call hA rfl rfl rfl (enters_func rfl rfl (fun w => by kernel_rfl)) (linked_any (hR.below hM.bel) (fun t ht => Dt.keep hM.bel _ (hD t ht)) (nilD_rd _) (by omega)) ?_
 rintro _ w9 ⟨t3, rfl, ⟨hrt3, htt3⟩, hb8⟩
 replace hM := hM.call hb8
 refine ⟨_, rfl, ?_⟩
 intro a hA
 have hlt10 := (Ck.lt (hM.has 0 rfl) g2 rfl).2
 have hzt2 := hM.bel.size
 refine seq_call hA rfl rfl rfl (enters_func rfl rfl (fun w => by kernel_rfl)) (copies_all t3 hrt3 (by rw [htt3, link_bulk, List.length_map]; omega)) ?_
 rintro _ w12 ⟨t2, rfl, ⟨hrt2, hat2, htt2⟩, hb11⟩
 replace hM := hM.call hb11
 refine ⟨_, rfl, ?_⟩
 intro a hA
 refine s_storeD (us := [.int .i64 t2.d.k, .int .i64 t2.d.n, .bool t2.d.y.q.b1, .slice t2.d.y.o1 t2.d.y.q.t1.length t2.d.y.c1, .slice t2.d.y.o2 t2.d.y.q.q1.length t2.d.y.c2, .bool t2.d.y.q.b2, .slice t2.d.y.o3 t2.d.y.q.t2.length t2.d.y.c3, .slice t2.d.y.o4 t2.d.y.q.q2.length t2.d.y.c4, .string t2.d.s, .slice t2.d.ro t2.d.rl.length t2.d.rc, .slice t2.d.lo t2.ts.length t2.d.lc]) (L' := (.obj g2 (.cells (t2.d.cells t2.ts.length).toArray 30) :: [])) hA hM rfl rfl (m_store rfl rfl rfl (by kernel_rfl) hM 0 rfl rfl rfl) 0 rfl rfl rfl ?_
 intro w13 hM hK14
 replace hrt2 := Dt.kept hK14 _ hrt2 (Dt.at_mono (fun b hb => by rintro rfl; omega) _ hat2)
 refine seq_end ?_
 refine hK4 _ _ ?_
 refine wp_ret ?_
 refine hret _ _ ?_
 refine ends (v := .agg (t2.d.cells t2.ts.length).toArray) hA rfl (.cons (res_cellS hM LiF_isS_30 rfl 0 rfl (cs := [.int .i64 t2.d.k, .int .i64 t2.d.n, .bool t2.d.y.q.b1, .slice t2.d.y.o1 t2.d.y.q.t1.length t2.d.y.c1, .slice t2.d.y.o2 t2.d.y.q.q1.length t2.d.y.c2, .bool t2.d.y.q.b2, .slice t2.d.y.o3 t2.d.y.q.t2.length t2.d.y.c3, .slice t2.d.y.o4 t2.d.y.q.q2.length t2.d.y.c4, .string t2.d.s, .slice t2.d.ro t2.d.rl.length t2.d.rc, .slice t2.d.lo t2.ts.length t2.d.lc]) rfl rfl) .nil) rfl ?_
 exact ⟨t2, rfl, ⟨hrt2, Dt.at_mono (fun b hb => Nat.le_trans hzt2 hb) _ hat2, by rw [htt2, htt3, nilD_tr]⟩, hM.bel⟩
theorem fitting_any {w : World} {so : Option Addr} {ca : Nat} {ts : List Dt} (hR : Rt w so ts) (hD : ∀ t ∈ ts, t.rd w) {u : Dt} (hu : u.rd w) (hb : Tr.bulks (ts.map Dt.tr) + u.tr.bulk ≤ 400000000) (hT : Tabs8 w) : Calls Tryz.prog 42 #[.slice so ts.length ca, .agg (u.d.cells u.ts.length).toArray] w fun e w' => ∃ (t2 : Dt) (k : Int), e = .returned (.tuple #[.agg (t2.d.cells t2.ts.length).toArray, .int .i64 k]) ∧ (t2.rd w' ∧ t2.at_ (w.heap.size ≤ ·) ∧ (t2.tr, k) = fitS (ts.map Dt.tr) u.tr) ∧ Below w.heap.size w w' := by
 have hbl := bulks_len ts
 have hM : Mg w w ([]) := Mg.start w
 refine walk_of (l := [(0, .slice so ts.length ca), (1, .agg (u.d.cells u.ts.length).toArray)]) Tryz.func42 rfl Tryz.ntmps42 rfl rfl ?_
 intro Q hret hnorm hP a hA
 refine wp_seq_k (fun K1 hK1 => ?_)
 refine wp_region_lit ?_
 refine s_new (vs := [.int .i64 u.d.k, .int .i64 u.d.n, .bool u.d.y.q.b1, .slice u.d.y.o1 u.d.y.q.t1.length u.d.y.c1, .slice u.d.y.o2 u.d.y.q.q1.length u.d.y.c2, .bool u.d.y.q.b2, .slice u.d.y.o3 u.d.y.q.t2.length u.d.y.c3, .slice u.d.y.o4 u.d.y.q.q2.length u.d.y.c4, .string u.d.s, .slice u.d.ro u.d.rl.length u.d.rc, .slice u.d.lo u.ts.length u.d.lc]) (t := 30) hA hM rfl rfl rfl (fun g => .pointer (some ⟨g, 0, none⟩)) (does_box rfl rfl) (by decide) ?_
 intro g2 w3 hM a hA
 refine s_new (vs := [.int .i64 0, .int .i64 0, .bool false, .slice none 0 0, .slice none 0 0, .bool false, .slice none 0 0, .slice none 0 0, .string (⟨#[]⟩), .slice none 0 0, .slice none 0 0]) (t := 30) hA hM rfl rfl rfl (fun g => .pointer (some ⟨g, 0, none⟩)) (does_alloc (z := .agg #[.int .i64 0, .int .i64 0, .bool false, .slice none 0 0, .slice none 0 0, .bool false, .slice none 0 0, .slice none 0 0, .string (⟨#[]⟩), .slice none 0 0, .slice none 0 0]) (by kernel_rfl) rfl) (by decide) ?_
 intro g4 w5 hM a hA
 refine seq_do hA rfl rfl rfl (does_assign rfl) ?_
 intro a hA
 refine seq_end ?_
 refine hK1 _ _ ?_
 refine wp_seq_k (fun K6 hK6 => ?_)
 refine wp_seq_k (fun K7 hK7 => ?_)
 refine wp_region_lit ?_
 refine seq_do hA rfl rfl rfl (does_move rfl) ?_
 intro a hA
 refine seq_do (v := .int .i64 (((ts.length : Nat) : Int))) hA rfl rfl rfl (does_len Tryz.underlying28 rfl) ?_
 intro a hA
 rcases Bool.eq_false_or_eq_true (decide (20000 < ((ts.length : Nat) : Int))) with hb8 | hb8
 · have hb8' := of_decide_eq_true hb8
   refine seq_do (v := .bool true) hA rfl rfl rfl (does_bin rfl rfl (fun w => (bin_gtr w).trans (by rw [hb8]))) ?_
   intro a hA
   refine seq_end ?_
   refine hK7 _ _ ?_
   refine wp_cond_true (hA.ev rfl) ?_
   refine wp_seq_k (fun K9 hK9 => ?_)
   refine wp_region_lit ?_
   refine seq_do (v := .agg #[.int .i64 0, .int .i64 0, .bool false, .slice none 0 0, .slice none 0 0, .bool false, .slice none 0 0, .slice none 0 0, .string (⟨#[]⟩), .slice none 0 0, .slice none 0 0]) hA rfl rfl rfl (does_build rfl (fun w => by kernel_rfl)) ?_
   intro a hA
   refine s_store (us := [.int .i64 0, .int .i64 0, .bool false, .slice none 0 0, .slice none 0 0, .bool false, .slice none 0 0, .slice none 0 0, .string (⟨#[]⟩), .slice none 0 0, .slice none 0 0]) (L' := (.obj g4 (.cells #[.int .i64 0, .int .i64 0, .bool false, .slice none 0 0, .slice none 0 0, .bool false, .slice none 0 0, .slice none 0 0, .string (⟨#[]⟩), .slice none 0 0, .slice none 0 0] 30) :: .obj g2 (.cells (u.d.cells u.ts.length).toArray 30) :: [])) hA hM rfl rfl (m_store rfl rfl rfl (by kernel_rfl) hM 0 rfl rfl rfl) 0 rfl rfl rfl ?_
   intro w10 hM
   refine seq_do hA rfl rfl rfl (does_assign rfl) ?_
   intro a hA
   refine seq_end ?_
   refine hK9 _ _ ?_
   refine wp_ret ?_
   refine hret _ _ ?_
   refine ends (v := .tuple #[.agg #[.int .i64 0, .int .i64 0, .bool false, .slice none 0 0, .slice none 0 0, .bool false, .slice none 0 0, .slice none 0 0, .string (⟨#[]⟩), .slice none 0 0, .slice none 0 0], .int .i64 4]) hA rfl (.cons (res_cellS hM LiF_isS_30 rfl 0 rfl (cs := [.int .i64 0, .int .i64 0, .bool false, .slice none 0 0, .slice none 0 0, .bool false, .slice none 0 0, .slice none 0 0, .string (⟨#[]⟩), .slice none 0 0, .slice none 0 0]) rfl rfl) (.cons (res_tmp rfl) .nil)) rfl ?_
   exact ⟨zeroD, 4, rfl, ⟨zeroD_rd _, zeroD_at _, by rw [fitS_long (by rw [List.length_map]; omega), zeroD_tr]⟩, hM.bel⟩
 · have hb8' := of_decide_eq_false hb8
   refine seq_do (v := .bool false) hA rfl rfl rfl (does_bin rfl rfl (fun w => (bin_gtr w).trans (by rw [hb8]))) ?_
   intro a hA
   refine seq_end ?_
   refine hK7 _ _ ?_
   refine wp_cond_false (hA.ev rfl) ?_
   refine wp_skip ?_
   refine hK6 _ _ ?_
   refine wp_seq_k (fun K11 hK11 => ?_)
   refine wp_region_lit ?_
   refine seq_do hA rfl rfl rfl (does_move rfl) ?_
   intro a hA
   refine seq_do hA rfl rfl rfl (m_loadS hM LiF_isS_30 rfl 1 rfl (cs := [.int .i64 u.d.k, .int .i64 u.d.n, .bool u.d.y.q.b1, .slice u.d.y.o1 u.d.y.q.t1.length u.d.y.c1, .slice u.d.y.o2 u.d.y.q.q1.length u.d.y.c2, .bool u.d.y.q.b2, .slice u.d.y.o3 u.d.y.q.t2.length u.d.y.c3, .slice u.d.y.o4 u.d.y.q.q2.length u.d.y.c4, .string u.d.s, .slice u.d.ro u.d.rl.length u.d.rc, .slice u.d.lo u.ts.length u.d.lc]) rfl rfl) ?_
   intro a hA
   have hlt12 := (Ck.lt (hM.has 0 rfl) g4 rfl).2
   have hlt13 := (Ck.lt (hM.has 1 rfl) g2 rfl).2
   have hzt3 := hM.bel.size
   refine seq_call hA rfl rfl rfl (enters_func rfl rfl (fun w => by kernel_rfl)) (linked_any (hR.below hM.bel) (fun t ht => Dt.keep hM.bel _ (hD t ht)) (Dt.keep hM.bel _ hu) (by omega)) ?_
   rintro _ w15 ⟨t3, rfl, ⟨hrt3, htt3⟩, hb14⟩
   replace hM := hM.call hb14
   refine ⟨_, rfl, ?_⟩
   intro a hA
   refine s_newD (vs := [.int .i64 0, .int .i64 0, .bool false, .slice none 0 0, .slice none 0 0, .bool false, .slice none 0 0, .slice none 0 0, .string (⟨#[]⟩), .slice none 0 0, .slice none 0 0]) (t := 30) hA hM rfl rfl rfl (fun g => .pointer (some ⟨g, 0, none⟩)) (does_alloc (z := .agg #[.int .i64 0, .int .i64 0, .bool false, .slice none 0 0, .slice none 0 0, .bool false, .slice none 0 0, .slice none 0 0, .string (⟨#[]⟩), .slice none 0 0, .slice none 0 0]) (by kernel_rfl) rfl) (by decide) ?_
   intro g16 w17 hM hg18 hb19 a hA
   have hnt3g16 := Dt.at_mono (q := (· ≠ g16)) (fun b hb => by intro e; omega) _ (Dt.at_lt _ hrt3)
   replace hrt3 := Dt.keep hb19 _ hrt3
   refine s_storeD (us := [.int .i64 t3.d.k, .int .i64 t3.d.n, .bool t3.d.y.q.b1, .slice t3.d.y.o1 t3.d.y.q.t1.length t3.d.y.c1, .slice t3.d.y.o2 t3.d.y.q.q1.length t3.d.y.c2, .bool t3.d.y.q.b2, .slice t3.d.y.o3 t3.d.y.q.t2.length t3.d.y.c3, .slice t3.d.y.o4 t3.d.y.q.q2.length t3.d.y.c4, .string t3.d.s, .slice t3.d.ro t3.d.rl.length t3.d.rc, .slice t3.d.lo t3.ts.length t3.d.lc]) (L' := (.obj g16 (.cells (t3.d.cells t3.ts.length).toArray 30) :: .obj g4 (.cells #[.int .i64 0, .int .i64 0, .bool false, .slice none 0 0, .slice none 0 0, .bool false, .slice none 0 0, .slice none 0 0, .string (⟨#[]⟩), .slice none 0 0, .slice none 0 0] 30) :: .obj g2 (.cells (u.d.cells u.ts.length).toArray 30) :: [])) hA hM rfl rfl (m_store rfl rfl rfl (by kernel_rfl) hM 0 rfl rfl rfl) 0 rfl rfl rfl ?_
   intro w20 hM hK21
   replace hrt3 := Dt.kept hK21 _ hrt3 hnt3g16
   refine seq_end ?_
   refine hK11 _ _ ?_
   refine wp_seq_k (fun K22 hK22 => ?_)
   refine wp_seq_k (fun K23 hK23 => ?_)
   refine wp_region_lit ?_
   refine seq_do hA rfl rfl rfl (m_loadS hM LiF_isS_30 rfl 0 rfl (cs := [.int .i64 t3.d.k, .int .i64 t3.d.n, .bool t3.d.y.q.b1, .slice t3.d.y.o1 t3.d.y.q.t1.length t3.d.y.c1, .slice t3.d.y.o2 t3.d.y.q.q1.length t3.d.y.c2, .bool t3.d.y.q.b2, .slice t3.d.y.o3 t3.d.y.q.t2.length t3.d.y.c3, .slice t3.d.y.o4 t3.d.y.q.q2.length t3.d.y.c4, .string t3.d.s, .slice t3.d.ro t3.d.rl.length t3.d.rc, .slice t3.d.lo t3.ts.length t3.d.lc]) rfl rfl) ?_
   intro a hA
   rcases Bool.eq_false_or_eq_true (soundT shapeT t3.tr) with hb24 | hb24
   · refine seq_call hA rfl rfl rfl (enters_func rfl rfl (fun w => by kernel_rfl)) ((hb24 ▸ sound_any (t := t3) hrt3 (hT.below hM.bel))) ?_
     rintro _ w26 ⟨rfl, hb25⟩
     replace hrt3 := Dt.keep hb25 _ hrt3
     replace hM := hM.call hb25
     refine ⟨_, rfl, ?_⟩
     intro a hA
     refine seq_do (v := .bool false) hA rfl rfl rfl (does_un rfl un_not) ?_
     intro a hA
     refine seq_end ?_
     refine hK23 _ _ ?_
     refine wp_cond_false (hA.ev rfl) ?_
     refine wp_skip ?_
     refine hK22 _ _ ?_
     refine wp_seq_k (fun K27 hK27 => ?_)
     refine wp_region_lit ?_
     refine seq_do hA rfl rfl rfl (m_loadS hM LiF_isS_30 rfl 0 rfl (cs := [.int .i64 t3.d.k, .int .i64 t3.d.n, .bool t3.d.y.q.b1, .slice t3.d.y.o1 t3.d.y.q.t1.length t3.d.y.c1, .slice t3.d.y.o2 t3.d.y.q.q1.length t3.d.y.c2, .bool t3.d.y.q.b2, .slice t3.d.y.o3 t3.d.y.q.t2.length t3.d.y.c3, .slice t3.d.y.o4 t3.d.y.q.q2.length t3.d.y.c4, .string t3.d.s, .slice t3.d.ro t3.d.rl.length t3.d.rc, .slice t3.d.lo t3.ts.length t3.d.lc]) rfl rfl) ?_
     intro a hA
     have hlt28 := (Ck.lt (hM.has 0 rfl) g16 rfl).2
     have hlt29 := (Ck.lt (hM.has 1 rfl) g4 rfl).2
     have hlt30 := (Ck.lt (hM.has 2 rfl) g2 rfl).2
     have hzt2 := hM.bel.size
     refine seq_call hA rfl rfl rfl (enters_func rfl rfl (fun w => by kernel_rfl)) (copies_all t3 hrt3 (by rw [htt3, link_bulk, List.length_map]; omega)) ?_
     rintro _ w32 ⟨t2, rfl, ⟨hrt2, hat2, htt2⟩, hb31⟩
     replace hM := hM.call hb31
     refine ⟨_, rfl, ?_⟩
     intro a hA
     refine s_storeD (us := [.int .i64 t2.d.k, .int .i64 t2.d.n, .bool t2.d.y.q.b1, .slice t2.d.y.o1 t2.d.y.q.t1.length t2.d.y.c1, .slice t2.d.y.o2 t2.d.y.q.q1.length t2.d.y.c2, .bool t2.d.y.q.b2, .slice t2.d.y.o3 t2.d.y.q.t2.length t2.d.y.c3, .slice t2.d.y.o4 t2.d.y.q.q2.length t2.d.y.c4, .string t2.d.s, .slice t2.d.ro t2.d.rl.length t2.d.rc, .slice t2.d.lo t2.ts.length t2.d.lc]) (L' := (.obj g16 (.cells (t3.d.cells t3.ts.length).toArray 30) :: .obj g4 (.cells (t2.d.cells t2.ts.length).toArray 30) :: .obj g2 (.cells (u.d.cells u.ts.length).toArray 30) :: [])) hA hM rfl rfl (m_store rfl rfl rfl (by kernel_rfl) hM 1 rfl rfl rfl) 1 rfl rfl rfl ?_
     intro w33 hM hK34
     replace hrt2 := Dt.kept hK34 _ hrt2 (Dt.at_mono (fun b hb => by rintro rfl; omega) _ hat2)
     refine seq_do hA rfl rfl rfl (does_assign rfl) ?_
     intro a hA
     refine seq_end ?_
     refine hK27 _ _ ?_
     refine wp_ret ?_
     refine hret _ _ ?_
     refine ends (v := .tuple #[.agg (t2.d.cells t2.ts.length).toArray, .int .i64 0]) hA rfl (.cons (res_cellS hM LiF_isS_30 rfl 1 rfl (cs := [.int .i64 t2.d.k, .int .i64 t2.d.n, .bool t2.d.y.q.b1, .slice t2.d.y.o1 t2.d.y.q.t1.length t2.d.y.c1, .slice t2.d.y.o2 t2.d.y.q.q1.length t2.d.y.c2, .bool t2.d.y.q.b2, .slice t2.d.y.o3 t2.d.y.q.t2.length t2.d.y.c3, .slice t2.d.y.o4 t2.d.y.q.q2.length t2.d.y.c4, .string t2.d.s, .slice t2.d.ro t2.d.rl.length t2.d.rc, .slice t2.d.lo t2.ts.length t2.d.lc]) rfl rfl) (.cons (res_tmp rfl) .nil)) rfl ?_
     exact ⟨t2, 0, rfl, ⟨hrt2, Dt.at_mono (fun b hb => Nat.le_trans hzt2 hb) _ hat2, by rw [htt3] at hb24; rw [fitS_yes hb24, htt2, htt3]⟩, hM.bel⟩
   · refine seq_call hA rfl rfl rfl (enters_func rfl rfl (fun w => by kernel_rfl)) ((hb24 ▸ sound_any (t := t3) hrt3 (hT.below hM.bel))) ?_
     rintro _ w36 ⟨rfl, hb35⟩
     replace hrt3 := Dt.keep hb35 _ hrt3
     replace hM := hM.call hb35
     refine ⟨_, rfl, ?_⟩
     intro a hA
     refine seq_do (v := .bool true) hA rfl rfl rfl (does_un rfl un_not) ?_
     intro a hA
     refine seq_end ?_
     refine hK23 _ _ ?_
     refine wp_cond_true (hA.ev rfl) ?_
     refine wp_seq_k (fun K37 hK37 => ?_)
     refine wp_region_lit ?_
     refine seq_do (v := .agg #[.int .i64 0, .int .i64 0, .bool false, .slice none 0 0, .slice none 0 0, .bool false, .slice none 0 0, .slice none 0 0, .string (⟨#[]⟩), .slice none 0 0, .slice none 0 0]) hA rfl rfl rfl (does_build rfl (fun w => by kernel_rfl)) ?_
     intro a hA
     refine s_storeD (us := [.int .i64 0, .int .i64 0, .bool false, .slice none 0 0, .slice none 0 0, .bool false, .slice none 0 0, .slice none 0 0, .string (⟨#[]⟩), .slice none 0 0, .slice none 0 0]) (L' := (.obj g16 (.cells (t3.d.cells t3.ts.length).toArray 30) :: .obj g4 (.cells #[.int .i64 0, .int .i64 0, .bool false, .slice none 0 0, .slice none 0 0, .bool false, .slice none 0 0, .slice none 0 0, .string (⟨#[]⟩), .slice none 0 0, .slice none 0 0] 30) :: .obj g2 (.cells (u.d.cells u.ts.length).toArray 30) :: [])) hA hM rfl rfl (m_store rfl rfl rfl (by kernel_rfl) hM 1 rfl rfl rfl) 1 rfl rfl rfl ?_
     intro w38 hM hK39
     refine seq_do hA rfl rfl rfl (does_assign rfl) ?_
     intro a hA
     refine seq_end ?_
     refine hK37 _ _ ?_
     refine wp_ret ?_
     refine hret _ _ ?_
     refine ends (v := .tuple #[.agg #[.int .i64 0, .int .i64 0, .bool false, .slice none 0 0, .slice none 0 0, .bool false, .slice none 0 0, .slice none 0 0, .string (⟨#[]⟩), .slice none 0 0, .slice none 0 0], .int .i64 4]) hA rfl (.cons (res_cellS hM LiF_isS_30 rfl 1 rfl (cs := [.int .i64 0, .int .i64 0, .bool false, .slice none 0 0, .slice none 0 0, .bool false, .slice none 0 0, .slice none 0 0, .string (⟨#[]⟩), .slice none 0 0, .slice none 0 0]) rfl rfl) (.cons (res_tmp rfl) .nil)) rfl ?_
     exact ⟨zeroD, 4, rfl, ⟨zeroD_rd _, zeroD_at _, by rw [htt3] at hb24; rw [fitS_no hb24, zeroD_tr]⟩, hM.bel⟩
theorem LiG_isS_30 : IsS Tryz.prog 30 11 := ⟨⟨_, Tryz.underlying30⟩, by kernel_rfl⟩
theorem rev_cons {w0 w : World} {g9 c9 : Nat} {ys : List Dt} {T : List Ck} (hl : ys.length ≤ 1000000000) (hne : ys ≠ []) (hM0 : Mg w0 w (.row 30 11 (.slice (some ⟨g9, 0, none⟩) ys.length c9) ys.length (cellsOf ys) :: T)) : Calls Tryz.prog 46 #[.slice (some ⟨g9, 0, none⟩) ys.length c9] w fun e w' => e = .returned (.tuple #[]) ∧ Mg w0 w' (.row 30 11 (.slice (some ⟨g9, 0, none⟩) ys.length c9) ys.length (cellsOf ys.reverse) :: T) := by
 have hpos : 0 < ys.length := List.length_pos_iff.2 hne
 have hM : Mg w0 w (.row 30 11 (.slice (some ⟨g9, 0, none⟩) ys.length c9) ys.length (cellsOf ys) :: T) := hM0
 refine walk_of (l := [(0, .slice (some ⟨g9, 0, none⟩) ys.length c9)]) Tryz.func46 rfl Tryz.ntmps46 rfl rfl ?_
 intro Q hret hnorm hP a hA
 refine wp_seq_k (fun K1 hK1 => ?_)
 refine wp_region_lit ?_
 refine seq_do hA rfl rfl rfl (does_move rfl) ?_
 intro a hA
 refine seq_do (v := .int .i64 (((ys.length : Nat) : Int))) hA rfl rfl rfl (does_len Tryz.underlying28 rfl) ?_
 intro a hA
 refine seq_do (v := .int .i64 (((ys.length : Nat) : Int) - 1 - ((0 : Nat) : Int))) hA rfl rfl rfl (does_bin rfl rfl (ar_sub ((in_i64 (by omega) (by omega)).trans (by omega)))) ?_
 intro a hA
 refine seq_do hA rfl rfl rfl (does_assign rfl) ?_
 intro a hA
 refine seq_do hA rfl rfl rfl (does_assign rfl) ?_
 intro a hA
 refine seq_end ?_
 refine hK1 _ _ ?_
 refine wp_block ?_
 refine wp_loop_n (fun m_ a w1 => ∃ (i : Nat) (zs : List Dt), m_ = 1 + (ys.length - i) ∧ (i ≤ ys.length ∧ RevI ys zs i) ∧ Sl a 28 [(0, .slice (some ⟨g9, 0, none⟩) ys.length c9), (2, .int .i64 (((i : Nat) : Int))), (3, .int .i64 (((ys.length : Nat) : Int) - 1 - ((i : Nat) : Int))), (4, .slice (some ⟨g9, 0, none⟩) ys.length c9), (5, .int .i64 (((ys.length : Nat) : Int))), (6, .int .i64 (((ys.length : Nat) : Int) - 1 - ((0 : Nat) : Int)))] ∧ Mg w0 w1 (.row 30 11 (.slice (some ⟨g9, 0, none⟩) ys.length c9) ys.length (cellsOf zs) :: T)) _ ⟨0, ys, rfl, ⟨Nat.zero_le _, revI_zero ys⟩, hA.keep _ ⟨rfl, rfl, rfl, rfl, rfl, rfl, trivial⟩, hM⟩ ?_
 clear hM hA
 rintro m_ a w2 ⟨i, zs, rfl, hinv4, hA, hM⟩ K3 hK3
 obtain ⟨hi0, hrv⟩ := hinv4
 refine wp_seq_k (fun K5 hK5 => ?_)
 refine wp_seq_k (fun K6 hK6 => ?_)
 refine wp_region_lit ?_
 refine seq_do hA rfl rfl rfl (does_move rfl) ?_
 intro a hA
 refine seq_do hA rfl rfl rfl (does_move rfl) ?_
 intro a hA
 rcases Bool.eq_false_or_eq_true (decide (((i : Nat) : Int) < ((ys.length : Nat) : Int) - 1 - ((i : Nat) : Int))) with hb7 | hb7
 · have hb7' := of_decide_eq_true hb7
   refine seq_do (v := .bool true) hA rfl rfl rfl (does_bin rfl rfl (fun w => (bin_lss w).trans (by rw [hb7]))) ?_
   intro a hA
   refine seq_end ?_
   refine hK6 _ _ ?_
   refine wp_cond_true (hA.ev rfl) ?_
   refine wp_skip ?_
   refine hK5 _ _ ?_
   refine wp_seq_k (fun K8 hK8 => ?_)
   refine wp_block ?_
   have hzl := hrv.1
   obtain ⟨a1, hza⟩ : ∃ a, zs[i]? = some a := ⟨_, List.getElem?_eq_getElem (by omega)⟩
   obtain ⟨b1, hzb⟩ : ∃ b, zs[ys.length - 1 - i]? = some b := ⟨_, List.getElem?_eq_getElem (by omega)⟩
   refine wp_draw (S := fun w1 => Mg w0 w1 ([])) (by kernel_rfl) ?_
   replace hM := hM.drew
   refine any_tk hA 0 rfl rfl rfl rfl hP (hM.sub (.cons _ (List.nil_sublist _))) (fun w1 hM => does_move rfl) ?_
   intro a hA
   refine any_tk hA 1 rfl rfl rfl rfl hP (hM.sub (.cons _ (List.nil_sublist _))) (fun w1 hM => does_move rfl) ?_
   intro a hA
   refine any_tk hA 2 rfl rfl rfl rfl hP (hM.sub (.cons _ (List.nil_sublist _))) (fun w1 hM => does_move rfl) ?_
   intro a hA
   refine any_tk hA 3 rfl rfl rfl rfl hP (hM.sub (.cons _ (List.nil_sublist _))) (fun w1 hM => does_move rfl) ?_
   intro a hA
   refine any_tk hA 4 rfl rfl rfl rfl hP (hM.sub (.cons _ (List.nil_sublist _))) (fun w1 hM => does_move rfl) ?_
   intro a hA
   refine any_tk hA 5 rfl rfl rfl rfl hP (hM.sub (.cons _ (List.nil_sublist _))) (fun w1 hM => does_move rfl) ?_
   intro a hA
   refine any_tk (v := .pointer (some ⟨g9, (ys.length - 1 - i) * 11, none⟩)) hA 6 rfl rfl rfl rfl hP (hM.sub (.cons _ (List.nil_sublist _))) (fun w1 hM => does_indexE (k := (ys.length - 1 - i)) Tryz.underlying28 (by kernel_rfl) rfl rfl (by omega) (by omega)) ?_
   intro a hA
   refine any_tk hA 8 rfl rfl rfl rfl hP (hM.sub (.cons _ (List.nil_sublist _))) (fun w1 hM => does_move rfl) ?_
   intro a hA
   refine any_tk hA 9 rfl rfl rfl rfl hP (hM.sub (.cons _ (List.nil_sublist _))) (fun w1 hM => does_move rfl) ?_
   intro a hA
   refine any_tk (v := .pointer (some ⟨g9, i * 11, none⟩)) hA 10 rfl rfl rfl rfl hP (hM.sub (.cons _ (List.nil_sublist _))) (fun w1 hM => does_indexE (k := i) Tryz.underlying28 (by kernel_rfl) rfl rfl (by omega) (by omega)) ?_
   intro a hA
   refine any_many (rs := [7, 11]) (by kernel_rfl) (by simp) ⟨?_, ?_, trivial⟩
   · refine op_do hA 7 rfl rfl rfl rfl (m_loadES (o := (ys.length - 1 - i) * 11) (cs := b1.d.cells b1.ts.length) hM 0 rfl LiG_isS_30 (cellsOf_at hzb) rfl rfl) (hM.sub (.cons _ (List.nil_sublist _))) ?_
     intro a hA
     refine any_one (by kernel_rfl) (op_do hA 11 rfl rfl rfl rfl (m_loadES (o := i * 11) (cs := a1.d.cells a1.ts.length) hM 0 rfl LiG_isS_30 (cellsOf_at hza) rfl rfl) (hM.sub (.cons _ (List.nil_sublist _))) ?_)
     intro a hA
     refine any_tk (v := .pointer (some ⟨g9, i * 11, none⟩)) hA 12 rfl rfl rfl rfl hP (hM.sub (.cons _ (List.nil_sublist _))) (fun w1 hM => does_indexE (k := i) Tryz.underlying28 (by kernel_rfl) rfl rfl (by omega) (by omega)) ?_
     intro a hA
     refine any_one (by kernel_rfl) (g_storeRD (us := cellsOf (zs.set i b1)) (L' := (.row 30 11 (.slice (some ⟨g9, 0, none⟩) ys.length c9) ys.length (cellsOf (zs.set i b1)) :: T)) hA hM 13 rfl rfl rfl (m_storeE (cs := b1.d.cells b1.ts.length) rfl rfl rfl (by kernel_rfl) hM 0 rfl (by show _ + 11 ≤ _; omega) (cells_all b1)) 0 rfl (over_row (by rw [hzl]; omega) rfl) rfl ?_)
     intro w9 hM
     refine ⟨(hM.sub (.cons _ (List.nil_sublist _))), ?_⟩
     refine any_tk (v := .pointer (some ⟨g9, (ys.length - 1 - i) * 11, none⟩)) hA 14 rfl rfl rfl rfl hP (hM.sub (.cons _ (List.nil_sublist _))) (fun w1 hM => does_indexE (k := (ys.length - 1 - i)) Tryz.underlying28 (by kernel_rfl) rfl rfl (by omega) (by omega)) ?_
     intro a hA
     refine any_one (by kernel_rfl) (g_storeRD (us := cellsOf ((zs.set i b1).set (ys.length - 1 - i) a1)) (L' := (.row 30 11 (.slice (some ⟨g9, 0, none⟩) ys.length c9) ys.length (cellsOf ((zs.set i b1).set (ys.length - 1 - i) a1)) :: T)) hA hM 15 rfl rfl rfl (m_storeE (cs := a1.d.cells a1.ts.length) rfl rfl rfl (by kernel_rfl) hM 0 rfl (by show _ + 11 ≤ _; omega) (cells_all a1)) 0 rfl (over_row (by rw [List.length_set, hzl]; omega) rfl) rfl ?_)
     intro w10 hM
     refine ⟨(hM.sub (.cons _ (List.nil_sublist _))), ?_⟩
     refine any_end (by kernel_rfl) ?_
     refine hK8 _ _ ?_
     refine wp_region_lit ?_
     refine seq_do hA rfl rfl rfl (does_move rfl) ?_
     intro a hA
     refine seq_do (v := .int .i64 (((i + 1 : Nat) : Int))) hA rfl rfl rfl (does_bin rfl rfl (ar_add ((in_i64 (by omega) (by omega)).trans (by omega)))) ?_
     intro a hA
     refine seq_do hA rfl rfl rfl (does_move rfl) ?_
     intro a hA
     refine seq_do (v := .int .i64 (((ys.length : Nat) : Int) - 1 - ((i + 1 : Nat) : Int))) hA rfl rfl rfl (does_bin rfl rfl (ar_sub ((in_i64 (by omega) (by omega)).trans (by omega)))) ?_
     intro a hA
     refine seq_do hA rfl rfl rfl (does_assign rfl) ?_
     intro a hA
     refine seq_do hA rfl rfl rfl (does_assign rfl) ?_
     intro a hA
     refine seq_end ?_
     refine hK3 _ _ _ (by omega) ⟨i + 1, ((zs.set i b1).set (ys.length - 1 - i) a1), rfl, ⟨by omega, revI_step hrv (by omega) hza hzb⟩, hA.keep _ ⟨rfl, rfl, rfl, rfl, rfl, rfl, trivial⟩, hM⟩
   · refine op_do hA 11 rfl rfl rfl rfl (m_loadES (o := i * 11) (cs := a1.d.cells a1.ts.length) hM 0 rfl LiG_isS_30 (cellsOf_at hza) rfl rfl) (hM.sub (.cons _ (List.nil_sublist _))) ?_
     intro a hA
     refine any_one (by kernel_rfl) (op_do hA 7 rfl rfl rfl rfl (m_loadES (o := (ys.length - 1 - i) * 11) (cs := b1.d.cells b1.ts.length) hM 0 rfl LiG_isS_30 (cellsOf_at hzb) rfl rfl) (hM.sub (.cons _ (List.nil_sublist _))) ?_)
     intro a hA
     refine any_tk (v := .pointer (some ⟨g9, i * 11, none⟩)) hA 12 rfl rfl rfl rfl hP (hM.sub (.cons _ (List.nil_sublist _))) (fun w1 hM => does_indexE (k := i) Tryz.underlying28 (by kernel_rfl) rfl rfl (by omega) (by omega)) ?_
     intro a hA
     refine any_one (by kernel_rfl) (g_storeRD (us := cellsOf (zs.set i b1)) (L' := (.row 30 11 (.slice (some ⟨g9, 0, none⟩) ys.length c9) ys.length (cellsOf (zs.set i b1)) :: T)) hA hM 13 rfl rfl rfl (m_storeE (cs := b1.d.cells b1.ts.length) rfl rfl rfl (by kernel_rfl) hM 0 rfl (by show _ + 11 ≤ _; omega) (cells_all b1)) 0 rfl (over_row (by rw [hzl]; omega) rfl) rfl ?_)
     intro w11 hM
     refine ⟨(hM.sub (.cons _ (List.nil_sublist _))), ?_⟩
     refine any_tk (v := .pointer (some ⟨g9, (ys.length - 1 - i) * 11, none⟩)) hA 14 rfl rfl rfl rfl hP (hM.sub (.cons _ (List.nil_sublist _))) (fun w1 hM => does_indexE (k := (ys.length - 1 - i)) Tryz.underlying28 (by kernel_rfl) rfl rfl (by omega) (by omega)) ?_
     intro a hA
     refine any_one (by kernel_rfl) (g_storeRD (us := cellsOf ((zs.set i b1).set (ys.length - 1 - i) a1)) (L' := (.row 30 11 (.slice (some ⟨g9, 0, none⟩) ys.length c9) ys.length (cellsOf ((zs.set i b1).set (ys.length - 1 - i) a1)) :: T)) hA hM 15 rfl rfl rfl (m_storeE (cs := a1.d.cells a1.ts.length) rfl rfl rfl (by kernel_rfl) hM 0 rfl (by show _ + 11 ≤ _; omega) (cells_all a1)) 0 rfl (over_row (by rw [List.length_set, hzl]; omega) rfl) rfl ?_)
     intro w12 hM
     refine ⟨(hM.sub (.cons _ (List.nil_sublist _))), ?_⟩
     refine any_end (by kernel_rfl) ?_
     refine hK8 _ _ ?_
     refine wp_region_lit ?_
     refine seq_do hA rfl rfl rfl (does_move rfl) ?_
     intro a hA
     refine seq_do (v := .int .i64 (((i + 1 : Nat) : Int))) hA rfl rfl rfl (does_bin rfl rfl (ar_add ((in_i64 (by omega) (by omega)).trans (by omega)))) ?_
     intro a hA
     refine seq_do hA rfl rfl rfl (does_move rfl) ?_
     intro a hA
     refine seq_do (v := .int .i64 (((ys.length : Nat) : Int) - 1 - ((i + 1 : Nat) : Int))) hA rfl rfl rfl (does_bin rfl rfl (ar_sub ((in_i64 (by omega) (by omega)).trans (by omega)))) ?_
     intro a hA
     refine seq_do hA rfl rfl rfl (does_assign rfl) ?_
     intro a hA
     refine seq_do hA rfl rfl rfl (does_assign rfl) ?_
     intro a hA
     refine seq_end ?_
     refine hK3 _ _ _ (by omega) ⟨i + 1, ((zs.set i b1).set (ys.length - 1 - i) a1), rfl, ⟨by omega, revI_step hrv (by omega) hza hzb⟩, hA.keep _ ⟨rfl, rfl, rfl, rfl, rfl, rfl, trivial⟩, hM⟩
 · have hb7' := of_decide_eq_false hb7
   refine seq_do (v := .bool false) hA rfl rfl rfl (does_bin rfl rfl (fun w => (bin_lss w).trans (by rw [hb7]))) ?_
   intro a hA
   refine seq_end ?_
   refine hK6 _ _ ?_
   refine wp_cond_false (hA.ev rfl) ?_
   refine wp_exit ?_
   refine hnorm _ _ ?_
   refine ends (v := .tuple #[]) hA rfl .nil rfl ?_
   rw [revI_end hrv (by omega)] at hM
   exact ⟨rfl, hM⟩
theorem rev_nil {w0 w : World} {so9 : Option Addr} {c9 : Nat} {T : List Ck} (hM0 : Mg w0 w (.row 30 11 (.slice so9 ([] : List Dt).length c9) ([] : List Dt).length (cellsOf []) :: T)) : Calls Tryz.prog 46 #[.slice so9 (([] : List Dt).length) c9] w fun e w' => e = .returned (.tuple #[]) ∧ Mg w0 w' (.row 30 11 (.slice so9 ([] : List Dt).length c9) ([] : List Dt).length (cellsOf ([] : List Dt).reverse) :: T) := by
 have hM : Mg w0 w (.row 30 11 (.slice so9 (([] : List Dt).length) c9) (([] : List Dt).length) (cellsOf []) :: T) := hM0
 refine walk_of (l := [(0, .slice so9 (([] : List Dt).length) c9)]) Tryz.func46 rfl Tryz.ntmps46 rfl rfl ?_
 intro Q hret hnorm hP a hA
 refine wp_seq_k (fun K1 hK1 => ?_)
 refine wp_region_lit ?_
 refine seq_do hA rfl rfl rfl (does_move rfl) ?_
 intro a hA
 refine seq_do (v := .int .i64 (((([] : List Dt).length : Nat) : Int))) hA rfl rfl rfl (does_len Tryz.underlying28 rfl) ?_
 intro a hA
 refine seq_do (v := .int .i64 (-1)) hA rfl rfl rfl (does_bin rfl rfl (ar_sub (by rfl))) ?_
 intro a hA
 refine seq_do hA rfl rfl rfl (does_assign rfl) ?_
 intro a hA
 refine seq_do hA rfl rfl rfl (does_assign rfl) ?_
 intro a hA
 refine seq_end ?_
 refine hK1 _ _ ?_
 refine wp_block ?_
 refine wp_loop_rounds 12 ?_
 refine rounds_k (fun K2 hK2 => ?_)
 refine wp_seq_k (fun K3 hK3 => ?_)
 refine wp_seq_k (fun K4 hK4 => ?_)
 refine wp_region_lit ?_
 refine seq_do hA rfl rfl rfl (does_move rfl) ?_
 intro a hA
 refine seq_do hA rfl rfl rfl (does_move rfl) ?_
 intro a hA
 refine seq_do (v := .bool false) hA rfl rfl rfl (does_bin rfl rfl (fun w => by kernel_rfl)) ?_
 intro a hA
 refine seq_end ?_
 refine hK4 _ _ ?_
 refine wp_cond_false (hA.ev rfl) ?_
 refine wp_exit ?_
 refine hnorm _ _ ?_
 refine ends (v := .tuple #[]) hA rfl .nil rfl ?_
 exact ⟨rfl, hM⟩
theorem rev_any {w0 w : World} {so9 : Option Addr} {c9 : Nat} {ys : List Dt} {T : List Ck} (hl : ys.length ≤ 1000000000) (hM0 : Mg w0 w (.row 30 11 (.slice so9 ys.length c9) ys.length (cellsOf ys) :: T)) : Calls Tryz.prog 46 #[.slice so9 ys.length c9] w fun e w' => e = .returned (.tuple #[]) ∧ Mg w0 w' (.row 30 11 (.slice so9 ys.length c9) ys.length (cellsOf ys.reverse) :: T) := by
  by_cases h : ys = []
  · subst h; exact rev_nil hM0
  · obtain ⟨g, c, e⟩ := row_open (hM0.has 0 rfl) (fun k => h (List.length_eq_zero_iff.1 k))
    cases e
    exact rev_cons hl h hM0
theorem none_of {α : Type} {x : Option α} (h : x.isSome = false) : x = none := Option.isNone_iff_eq_none.1 (Option.isSome_eq_false_iff.1 h)
theorem of_any {w : World} {so : Option Addr} {ca : Nat} {ts : List Dt} (hR : Rt w so ts) (hD : ∀ t ∈ ts, t.rd w) (hb : Tr.bulks (ts.map Dt.tr) ≤ 300000000) (hT : Tabs8 w) : Calls Tryz.prog 18 #[.slice so ts.length ca] w fun e w' => ∃ t2 : Dt, e = .returned (.agg (t2.d.cells t2.ts.length).toArray) ∧ (t2.rd w' ∧ t2.at_ (w.heap.size ≤ ·) ∧ t2.tr = ofS (ts.map Dt.tr)) ∧ Below w.heap.size w w' := by
 have hnb : nilD.tr.bulk = 1 := by rw [nilD_tr]; rfl
 have hM : Mg w w ([]) := Mg.start w
 refine walk_of (l := [(0, .slice so ts.length ca)]) Tryz.func18 rfl Tryz.ntmps18 rfl rfl ?_
 intro Q hret hnorm hP a hA
 refine wp_seq_k (fun K1 hK1 => ?_)
 refine wp_region_lit ?_
 refine s_new (vs := [.int .i64 0, .int .i64 0, .bool false, .slice none 0 0, .slice none 0 0, .bool false, .slice none 0 0, .slice none 0 0, .string (⟨#[]⟩), .slice none 0 0, .slice none 0 0]) (t := 30) hA hM rfl rfl rfl (fun g => .pointer (some ⟨g, 0, none⟩)) (does_alloc (z := .agg #[.int .i64 0, .int .i64 0, .bool false, .slice none 0 0, .slice none 0 0, .bool false, .slice none 0 0, .slice none 0 0, .string (⟨#[]⟩), .slice none 0 0, .slice none 0 0]) (by kernel_rfl) rfl) (by decide) ?_
 intro g2 w3 hM a hA
 refine seq_end ?_
 refine hK1 _ _ ?_
 refine wp_seq_k (fun K4 hK4 => ?_)
 refine wp_region_lit ?_
 refine seq_do hA rfl rfl rfl (does_move rfl) ?_
 intro a hA
 refine seq_call hA rfl rfl rfl (enters_func rfl rfl (fun w => by kernel_rfl)) (end_any) ?_
 rintro _ w6 ⟨rfl, hb5⟩
 replace hM := hM.call hb5
 refine ⟨_, rfl, ?_⟩
 intro a hA
 have hlt7 := (Ck.lt (hM.has 0 rfl) g2 rfl).2
 have hzt2 := hM.bel.size
 refine seq_call hA rfl rfl rfl (enters_func rfl rfl (fun w => by kernel_rfl)) (fitting_any (u := nilD) (hR.below hM.bel) (fun t ht => Dt.keep hM.bel _ (hD t ht)) (nilD_rd _) (by omega) (hT.below hM.bel)) ?_
 rintro _ w9 ⟨t2, k2, rfl, ⟨hrt2, hat2, htt2⟩, hb8⟩
 replace hM := hM.call hb8
 refine ⟨_, rfl, ?_⟩
 intro a hA
 refine seq_do hA rfl rfl rfl (does_move rfl) ?_
 intro a hA
 refine seq_do (v := .agg (t2.d.cells t2.ts.length).toArray) hA rfl rfl rfl (does_extract (vs := [.agg (t2.d.cells t2.ts.length).toArray, .int .i64 k2]) rfl rfl) ?_
 intro a hA
 refine seq_do (v := .int .i64 k2) hA rfl rfl rfl (does_extract (vs := [.agg (t2.d.cells t2.ts.length).toArray, .int .i64 k2]) rfl rfl) ?_
 intro a hA
 refine s_newD (vs := [.int .i64 0, .int .i64 0, .bool false, .slice none 0 0, .slice none 0 0, .bool false, .slice none 0 0, .slice none 0 0, .string (⟨#[]⟩), .slice none 0 0, .slice none 0 0]) (t := 30) hA hM rfl rfl rfl (fun g => .pointer (some ⟨g, 0, none⟩)) (does_alloc (z := .agg #[.int .i64 0, .int .i64 0, .bool false, .slice none 0 0, .slice none 0 0, .bool false, .slice none 0 0, .slice none 0 0, .string (⟨#[]⟩), .slice none 0 0, .slice none 0 0]) (by kernel_rfl) rfl) (by decide) ?_
 intro g10 w11 hM hg12 hb13 a hA
 have hnt2g10 := Dt.at_mono (q := (· ≠ g10)) (fun b hb => by intro e; omega) _ (Dt.at_lt _ hrt2)
 replace hrt2 := Dt.keep hb13 _ hrt2
 refine s_storeD (us := [.int .i64 t2.d.k, .int .i64 t2.d.n, .bool t2.d.y.q.b1, .slice t2.d.y.o1 t2.d.y.q.t1.length t2.d.y.c1, .slice t2.d.y.o2 t2.d.y.q.q1.length t2.d.y.c2, .bool t2.d.y.q.b2, .slice t2.d.y.o3 t2.d.y.q.t2.length t2.d.y.c3, .slice t2.d.y.o4 t2.d.y.q.q2.length t2.d.y.c4, .string t2.d.s, .slice t2.d.ro t2.d.rl.length t2.d.rc, .slice t2.d.lo t2.ts.length t2.d.lc]) (L' := (.obj g10 (.cells (t2.d.cells t2.ts.length).toArray 30) :: .obj g2 (.cells #[.int .i64 0, .int .i64 0, .bool false, .slice none 0 0, .slice none 0 0, .bool false, .slice none 0 0, .slice none 0 0, .string (⟨#[]⟩), .slice none 0 0, .slice none 0 0] 30) :: [])) hA hM rfl rfl (m_store rfl rfl rfl (by kernel_rfl) hM 0 rfl rfl rfl) 0 rfl rfl rfl ?_
 intro w14 hM hK15
 replace hrt2 := Dt.kept hK15 _ hrt2 hnt2g10
 refine seq_do hA rfl rfl rfl (does_assign rfl) ?_
 intro a hA
 refine seq_end ?_
 refine hK4 _ _ ?_
 refine wp_seq_k (fun K16 hK16 => ?_)
 refine wp_region_lit ?_
 refine seq_do hA rfl rfl rfl (m_loadS hM LiG_isS_30 rfl 0 rfl (cs := [.int .i64 t2.d.k, .int .i64 t2.d.n, .bool t2.d.y.q.b1, .slice t2.d.y.o1 t2.d.y.q.t1.length t2.d.y.c1, .slice t2.d.y.o2 t2.d.y.q.q1.length t2.d.y.c2, .bool t2.d.y.q.b2, .slice t2.d.y.o3 t2.d.y.q.t2.length t2.d.y.c3, .slice t2.d.y.o4 t2.d.y.q.q2.length t2.d.y.c4, .string t2.d.s, .slice t2.d.ro t2.d.rl.length t2.d.rc, .slice t2.d.lo t2.ts.length t2.d.lc]) rfl rfl) ?_
 intro a hA
 refine s_storeD (us := [.int .i64 t2.d.k, .int .i64 t2.d.n, .bool t2.d.y.q.b1, .slice t2.d.y.o1 t2.d.y.q.t1.length t2.d.y.c1, .slice t2.d.y.o2 t2.d.y.q.q1.length t2.d.y.c2, .bool t2.d.y.q.b2, .slice t2.d.y.o3 t2.d.y.q.t2.length t2.d.y.c3, .slice t2.d.y.o4 t2.d.y.q.q2.length t2.d.y.c4, .string t2.d.s, .slice t2.d.ro t2.d.rl.length t2.d.rc, .slice t2.d.lo t2.ts.length t2.d.lc]) (L' := (.obj g10 (.cells (t2.d.cells t2.ts.length).toArray 30) :: .obj g2 (.cells (t2.d.cells t2.ts.length).toArray 30) :: [])) hA hM rfl rfl (m_store rfl rfl rfl (by kernel_rfl) hM 1 rfl rfl rfl) 1 rfl rfl rfl ?_
 intro w17 hM hK18
 replace hrt2 := Dt.kept hK18 _ hrt2 (Dt.at_mono (fun b hb => by rintro rfl; omega) _ hat2)
 refine seq_end ?_
 refine hK16 _ _ ?_
 refine wp_ret ?_
 refine hret _ _ ?_
 refine ends (v := .agg (t2.d.cells t2.ts.length).toArray) hA rfl (.cons (res_cellS hM LiG_isS_30 rfl 1 rfl (cs := [.int .i64 t2.d.k, .int .i64 t2.d.n, .bool t2.d.y.q.b1, .slice t2.d.y.o1 t2.d.y.q.t1.length t2.d.y.c1, .slice t2.d.y.o2 t2.d.y.q.q1.length t2.d.y.c2, .bool t2.d.y.q.b2, .slice t2.d.y.o3 t2.d.y.q.t2.length t2.d.y.c3, .slice t2.d.y.o4 t2.d.y.q.q2.length t2.d.y.c4, .string t2.d.s, .slice t2.d.ro t2.d.rl.length t2.d.rc, .slice t2.d.lo t2.ts.length t2.d.lc]) rfl rfl) .nil) rfl ?_
 exact ⟨t2, rfl, ⟨hrt2, Dt.at_mono (fun b hb => Nat.le_trans hzt2 hb) _ hat2, by unfold ofS; rw [← nilD_tr, ← htt2]⟩, hM.bel⟩
theorem bulks_rev : ∀ ts : List Tr, Tr.bulks ts.reverse = Tr.bulks ts
  | [] => rfl
  | t :: ts => by rw [List.reverse_cons, bulks_append, bulks_rev ts, Tr.bulks, Tr.bulks, Tr.bulks]; omega
theorem listOf_rev {w : World} {so : Option Addr} {ca : Nat} {ys : List Dt} (hR : Rt w so ys.reverse) (hD : ∀ t ∈ ys.reverse, t.rd w) (hb : Tr.bulks (ys.reverse.map Dt.tr) ≤ 400000000) : Calls Tryz.prog 27 #[.slice so ys.length ca] w fun e w' => ∃ t2 : Dt, e = .returned (.agg (t2.d.cells t2.ts.length).toArray) ∧ (t2.rd w' ∧ t2.at_ (w.heap.size ≤ ·) ∧ t2.tr = linkT (ys.reverse.map Dt.tr) nilT) ∧ Below w.heap.size w w' := by
  have := listOf_any (ca := ca) hR hD hb
  rwa [List.length_reverse] at this
theorem reverse_any {w : World} {t : Dt} (ht : t.rd w) (hb : t.tr.bulk ≤ 300000000) (hT : Tabs8 w) : Calls Tryz.prog 21 #[.agg (t.d.cells t.ts.length).toArray] w fun e w' => ∃ (t2 : Dt) (k : Int), e = .returned (.tuple #[.agg (t2.d.cells t2.ts.length).toArray, .int .i64 k]) ∧ (t2.rd w' ∧ t2.at_ (w.heap.size ≤ ·) ∧ (t2.tr, k) = revS t.tr) ∧ Below w.heap.size w w' := by
 have hM : Mg w w ([]) := Mg.start w
 refine walk_of (l := [(0, .agg (t.d.cells t.ts.length).toArray)]) Tryz.func21 rfl Tryz.ntmps21 rfl rfl ?_
 intro Q hret hnorm hP a hA
 refine wp_seq_k (fun K1 hK1 => ?_)
 refine wp_region_lit ?_
 refine s_new (vs := [.int .i64 t.d.k, .int .i64 t.d.n, .bool t.d.y.q.b1, .slice t.d.y.o1 t.d.y.q.t1.length t.d.y.c1, .slice t.d.y.o2 t.d.y.q.q1.length t.d.y.c2, .bool t.d.y.q.b2, .slice t.d.y.o3 t.d.y.q.t2.length t.d.y.c3, .slice t.d.y.o4 t.d.y.q.q2.length t.d.y.c4, .string t.d.s, .slice t.d.ro t.d.rl.length t.d.rc, .slice t.d.lo t.ts.length t.d.lc]) (t := 30) hA hM rfl rfl rfl (fun g => .pointer (some ⟨g, 0, none⟩)) (does_box rfl rfl) (by decide) ?_
 intro g2 w3 hM a hA
 refine s_new (vs := [.int .i64 0, .int .i64 0, .bool false, .slice none 0 0, .slice none 0 0, .bool false, .slice none 0 0, .slice none 0 0, .string (⟨#[]⟩), .slice none 0 0, .slice none 0 0]) (t := 30) hA hM rfl rfl rfl (fun g => .pointer (some ⟨g, 0, none⟩)) (does_alloc (z := .agg #[.int .i64 0, .int .i64 0, .bool false, .slice none 0 0, .slice none 0 0, .bool false, .slice none 0 0, .slice none 0 0, .string (⟨#[]⟩), .slice none 0 0, .slice none 0 0]) (by kernel_rfl) rfl) (by decide) ?_
 intro g4 w5 hM a hA
 refine seq_do hA rfl rfl rfl (does_assign rfl) ?_
 intro a hA
 refine seq_end ?_
 refine hK1 _ _ ?_
 refine wp_seq_k (fun K6 hK6 => ?_)
 refine wp_region_lit ?_
 refine seq_do hA rfl rfl rfl (m_loadS hM LiG_isS_30 rfl 1 rfl (cs := [.int .i64 t.d.k, .int .i64 t.d.n, .bool t.d.y.q.b1, .slice t.d.y.o1 t.d.y.q.t1.length t.d.y.c1, .slice t.d.y.o2 t.d.y.q.q1.length t.d.y.c2, .bool t.d.y.q.b2, .slice t.d.y.o3 t.d.y.q.t2.length t.d.y.c3, .slice t.d.y.o4 t.d.y.q.q2.length t.d.y.c4, .string t.d.s, .slice t.d.ro t.d.rl.length t.d.rc, .slice t.d.lo t.ts.length t.d.lc]) rfl rfl) ?_
 intro a hA
 rcases Bool.eq_false_or_eq_true (soundT shapeT t.tr) with hb7 | hb7
 · rcases Bool.eq_false_or_eq_true ((asList t.tr).isSome) with hb9 | hb9
   · refine seq_call hA rfl rfl rfl (enters_func rfl rfl (fun w => by kernel_rfl)) (items_some hM.bel ht (by omega) (hT.below hM.bel) hb7 hb9) ?_
     rintro _ w11 ⟨so7, ca7, ys, rfl, ⟨hy1, hy2, hy3⟩, hM7⟩
     have hyb := asList_bulk hy1
     replace hM : Mg w w11 (.row 30 11 (.slice so7 ys.length ca7) ys.length (cellsOf ys) :: .obj g4 (.cells #[.int .i64 0, .int .i64 0, .bool false, .slice none 0 0, .slice none 0 0, .bool false, .slice none 0 0, .slice none 0 0, .string (⟨#[]⟩), .slice none 0 0, .slice none 0 0] 30) :: .obj g2 (.cells (t.d.cells t.ts.length).toArray 30) :: []) := (hM.both hM7 (noBld_cons (by simp) (noBld_cons (by simp) (noBld_quiet quietL_nil))) (noBld_cons (by simp) (noBld_quiet quietL_nil)))
     refine ⟨_, rfl, ?_⟩
     intro a hA
     refine seq_do hA rfl rfl rfl (does_move rfl) ?_
     intro a hA
     refine seq_do (v := .slice so7 ys.length ca7) hA rfl rfl rfl (does_extract (vs := [.slice so7 ys.length ca7, .int .i64 0]) rfl rfl) ?_
     intro a hA
     refine seq_do (v := .int .i64 0) hA rfl rfl rfl (does_extract (vs := [.slice so7 ys.length ca7, .int .i64 0]) rfl rfl) ?_
     intro a hA
     refine seq_do hA rfl rfl rfl (does_assign rfl) ?_
     intro a hA
     refine seq_do hA rfl rfl rfl (does_assign rfl) ?_
     intro a hA
     refine seq_end ?_
     refine hK6 _ _ ?_
     refine wp_seq_k (fun K12 hK12 => ?_)
     refine wp_seq_k (fun K13 hK13 => ?_)
     refine wp_region_lit ?_
     refine seq_do hA rfl rfl rfl (does_move rfl) ?_
     intro a hA
     refine seq_do (v := .bool false) hA rfl rfl rfl (does_bin rfl rfl (fun w => by kernel_rfl)) ?_
     intro a hA
     refine seq_end ?_
     refine hK13 _ _ ?_
     refine wp_cond_false (hA.ev rfl) ?_
     refine wp_skip ?_
     refine hK12 _ _ ?_
     refine wp_seq_k (fun K14 hK14 => ?_)
     refine wp_region_lit ?_
     refine seq_do hA rfl rfl rfl (does_move rfl) ?_
     intro a hA
     refine seq_call hA rfl rfl rfl (enters_func rfl rfl (fun w => by kernel_rfl)) (rev_any (by omega) hM) ?_
     rintro _ w15 ⟨rfl, hM8⟩
     replace hM : Mg w w15 (.row 30 11 (.slice so7 ys.length ca7) ys.length (cellsOf ys.reverse) :: .obj g4 (.cells #[.int .i64 0, .int .i64 0, .bool false, .slice none 0 0, .slice none 0 0, .bool false, .slice none 0 0, .slice none 0 0, .string (⟨#[]⟩), .slice none 0 0, .slice none 0 0] 30) :: .obj g2 (.cells (t.d.cells t.ts.length).toArray 30) :: []) := hM8
     refine ⟨_, rfl, ?_⟩
     intro a hA
     refine seq_end ?_
     refine hK14 _ _ ?_
     refine wp_seq_k (fun K16 hK16 => ?_)
     refine wp_region_lit ?_
     refine seq_do hA rfl rfl rfl (does_move rfl) ?_
     intro a hA
     have hlt17 := (Ck.lt (hM.has 1 rfl) g4 rfl).2
     have hlt18 := (Ck.lt (hM.has 2 rfl) g2 rfl).2
     have hzt2 := hM.bel.size
     refine seq_call hA rfl rfl rfl (enters_func rfl rfl (fun w => by kernel_rfl)) (listOf_rev (rt_own (hM.has 0 rfl)).1 (fun t ht => Dt.keep hM.bel _ (hy2 t (List.mem_reverse.1 ht))) (by rw [List.map_reverse, bulks_rev]; omega)) ?_
     rintro _ w20 ⟨t2, rfl, ⟨hrt2, hat2, htt2⟩, hb19⟩
     replace hM := hM.call hb19
     refine ⟨_, rfl, ?_⟩
     intro a hA
     refine s_storeD (us := [.int .i64 t2.d.k, .int .i64 t2.d.n, .bool t2.d.y.q.b1, .slice t2.d.y.o1 t2.d.y.q.t1.length t2.d.y.c1, .slice t2.d.y.o2 t2.d.y.q.q1.length t2.d.y.c2, .bool t2.d.y.q.b2, .slice t2.d.y.o3 t2.d.y.q.t2.length t2.d.y.c3, .slice t2.d.y.o4 t2.d.y.q.q2.length t2.d.y.c4, .string t2.d.s, .slice t2.d.ro t2.d.rl.length t2.d.rc, .slice t2.d.lo t2.ts.length t2.d.lc]) (L' := (.row 30 11 (.slice so7 ys.length ca7) ys.length (cellsOf ys.reverse) :: .obj g4 (.cells (t2.d.cells t2.ts.length).toArray 30) :: .obj g2 (.cells (t.d.cells t.ts.length).toArray 30) :: [])) hA hM rfl rfl (m_store rfl rfl rfl (by kernel_rfl) hM 1 rfl rfl rfl) 1 rfl rfl rfl ?_
     intro w21 hM hK22
     replace hrt2 := Dt.kept hK22 _ hrt2 (Dt.at_mono (fun b hb => by rintro rfl; omega) _ hat2)
     refine seq_do hA rfl rfl rfl (does_assign rfl) ?_
     intro a hA
     refine seq_end ?_
     refine hK16 _ _ ?_
     refine wp_ret ?_
     refine hret _ _ ?_
     refine ends (v := .tuple #[.agg (t2.d.cells t2.ts.length).toArray, .int .i64 0]) hA rfl (.cons (res_cellS hM LiG_isS_30 rfl 1 rfl (cs := [.int .i64 t2.d.k, .int .i64 t2.d.n, .bool t2.d.y.q.b1, .slice t2.d.y.o1 t2.d.y.q.t1.length t2.d.y.c1, .slice t2.d.y.o2 t2.d.y.q.q1.length t2.d.y.c2, .bool t2.d.y.q.b2, .slice t2.d.y.o3 t2.d.y.q.t2.length t2.d.y.c3, .slice t2.d.y.o4 t2.d.y.q.q2.length t2.d.y.c4, .string t2.d.s, .slice t2.d.ro t2.d.rl.length t2.d.rc, .slice t2.d.lo t2.ts.length t2.d.lc]) rfl rfl) (.cons (res_tmp rfl) .nil)) rfl ?_
     exact ⟨t2, 0, rfl, ⟨hrt2, Dt.at_mono (fun b hb => Nat.le_trans hzt2 hb) _ hat2, by unfold revS; rw [if_neg (by rw [hb7]; decide), hy1]; rw [htt2, List.map_reverse]⟩, hM.bel⟩
   · refine seq_call hA rfl rfl rfl (enters_func rfl rfl (fun w => by kernel_rfl)) (items_none hM.bel ht (by omega) (hT.below hM.bel) hb7 hb9) ?_
     rintro _ w24 ⟨rfl, hb23⟩
     replace hM := hM.call hb23
     refine ⟨_, rfl, ?_⟩
     intro a hA
     refine seq_do hA rfl rfl rfl (does_move rfl) ?_
     intro a hA
     refine seq_do (v := .slice none 0 0) hA rfl rfl rfl (does_extract (vs := [.slice none 0 0, .int .i64 10]) rfl rfl) ?_
     intro a hA
     refine seq_do (v := .int .i64 10) hA rfl rfl rfl (does_extract (vs := [.slice none 0 0, .int .i64 10]) rfl rfl) ?_
     intro a hA
     refine seq_do hA rfl rfl rfl (does_assign rfl) ?_
     intro a hA
     refine seq_do hA rfl rfl rfl (does_assign rfl) ?_
     intro a hA
     refine seq_end ?_
     refine hK6 _ _ ?_
     refine wp_seq_k (fun K25 hK25 => ?_)
     refine wp_seq_k (fun K26 hK26 => ?_)
     refine wp_region_lit ?_
     refine seq_do hA rfl rfl rfl (does_move rfl) ?_
     intro a hA
     refine seq_do (v := .bool true) hA rfl rfl rfl (does_bin rfl rfl (fun w => by kernel_rfl)) ?_
     intro a hA
     refine seq_end ?_
     refine hK26 _ _ ?_
     refine wp_cond_true (hA.ev rfl) ?_
     refine wp_seq_k (fun K27 hK27 => ?_)
     refine wp_region_lit ?_
     refine seq_do (v := .agg #[.int .i64 0, .int .i64 0, .bool false, .slice none 0 0, .slice none 0 0, .bool false, .slice none 0 0, .slice none 0 0, .string (⟨#[]⟩), .slice none 0 0, .slice none 0 0]) hA rfl rfl rfl (does_build rfl (fun w => by kernel_rfl)) ?_
     intro a hA
     refine seq_do hA rfl rfl rfl (does_move rfl) ?_
     intro a hA
     refine s_store (us := [.int .i64 0, .int .i64 0, .bool false, .slice none 0 0, .slice none 0 0, .bool false, .slice none 0 0, .slice none 0 0, .string (⟨#[]⟩), .slice none 0 0, .slice none 0 0]) (L' := (.obj g4 (.cells #[.int .i64 0, .int .i64 0, .bool false, .slice none 0 0, .slice none 0 0, .bool false, .slice none 0 0, .slice none 0 0, .string (⟨#[]⟩), .slice none 0 0, .slice none 0 0] 30) :: .obj g2 (.cells (t.d.cells t.ts.length).toArray 30) :: [])) hA hM rfl rfl (m_store rfl rfl rfl (by kernel_rfl) hM 0 rfl rfl rfl) 0 rfl rfl rfl ?_
     intro w28 hM
     refine seq_do hA rfl rfl rfl (does_assign rfl) ?_
     intro a hA
     refine seq_end ?_
     refine hK27 _ _ ?_
     refine wp_ret ?_
     refine hret _ _ ?_
     refine ends (v := .tuple #[.agg #[.int .i64 0, .int .i64 0, .bool false, .slice none 0 0, .slice none 0 0, .bool false, .slice none 0 0, .slice none 0 0, .string (⟨#[]⟩), .slice none 0 0, .slice none 0 0], .int .i64 10]) hA rfl (.cons (res_cellS hM LiG_isS_30 rfl 0 rfl (cs := [.int .i64 0, .int .i64 0, .bool false, .slice none 0 0, .slice none 0 0, .bool false, .slice none 0 0, .slice none 0 0, .string (⟨#[]⟩), .slice none 0 0, .slice none 0 0]) rfl rfl) (.cons (res_tmp rfl) .nil)) rfl ?_
     exact ⟨zeroD, 10, rfl, ⟨zeroD_rd _, zeroD_at _, by unfold revS; rw [if_neg (by rw [hb7]; decide), none_of hb9, zeroD_tr]⟩, hM.bel⟩
 · refine seq_call hA rfl rfl rfl (enters_func rfl rfl (fun w => by kernel_rfl)) (items_bad hM.bel ht (by omega) (hT.below hM.bel) hb7) ?_
   rintro _ w30 ⟨rfl, hb29⟩
   replace hM := hM.call hb29
   refine ⟨_, rfl, ?_⟩
   intro a hA
   refine seq_do hA rfl rfl rfl (does_move rfl) ?_
   intro a hA
   refine seq_do (v := .slice none 0 0) hA rfl rfl rfl (does_extract (vs := [.slice none 0 0, .int .i64 2]) rfl rfl) ?_
   intro a hA
   refine seq_do (v := .int .i64 2) hA rfl rfl rfl (does_extract (vs := [.slice none 0 0, .int .i64 2]) rfl rfl) ?_
   intro a hA
   refine seq_do hA rfl rfl rfl (does_assign rfl) ?_
   intro a hA
   refine seq_do hA rfl rfl rfl (does_assign rfl) ?_
   intro a hA
   refine seq_end ?_
   refine hK6 _ _ ?_
   refine wp_seq_k (fun K31 hK31 => ?_)
   refine wp_seq_k (fun K32 hK32 => ?_)
   refine wp_region_lit ?_
   refine seq_do hA rfl rfl rfl (does_move rfl) ?_
   intro a hA
   refine seq_do (v := .bool true) hA rfl rfl rfl (does_bin rfl rfl (fun w => by kernel_rfl)) ?_
   intro a hA
   refine seq_end ?_
   refine hK32 _ _ ?_
   refine wp_cond_true (hA.ev rfl) ?_
   refine wp_seq_k (fun K33 hK33 => ?_)
   refine wp_region_lit ?_
   refine seq_do (v := .agg #[.int .i64 0, .int .i64 0, .bool false, .slice none 0 0, .slice none 0 0, .bool false, .slice none 0 0, .slice none 0 0, .string (⟨#[]⟩), .slice none 0 0, .slice none 0 0]) hA rfl rfl rfl (does_build rfl (fun w => by kernel_rfl)) ?_
   intro a hA
   refine seq_do hA rfl rfl rfl (does_move rfl) ?_
   intro a hA
   refine s_store (us := [.int .i64 0, .int .i64 0, .bool false, .slice none 0 0, .slice none 0 0, .bool false, .slice none 0 0, .slice none 0 0, .string (⟨#[]⟩), .slice none 0 0, .slice none 0 0]) (L' := (.obj g4 (.cells #[.int .i64 0, .int .i64 0, .bool false, .slice none 0 0, .slice none 0 0, .bool false, .slice none 0 0, .slice none 0 0, .string (⟨#[]⟩), .slice none 0 0, .slice none 0 0] 30) :: .obj g2 (.cells (t.d.cells t.ts.length).toArray 30) :: [])) hA hM rfl rfl (m_store rfl rfl rfl (by kernel_rfl) hM 0 rfl rfl rfl) 0 rfl rfl rfl ?_
   intro w34 hM
   refine seq_do hA rfl rfl rfl (does_assign rfl) ?_
   intro a hA
   refine seq_end ?_
   refine hK33 _ _ ?_
   refine wp_ret ?_
   refine hret _ _ ?_
   refine ends (v := .tuple #[.agg #[.int .i64 0, .int .i64 0, .bool false, .slice none 0 0, .slice none 0 0, .bool false, .slice none 0 0, .slice none 0 0, .string (⟨#[]⟩), .slice none 0 0, .slice none 0 0], .int .i64 2]) hA rfl (.cons (res_cellS hM LiG_isS_30 rfl 0 rfl (cs := [.int .i64 0, .int .i64 0, .bool false, .slice none 0 0, .slice none 0 0, .bool false, .slice none 0 0, .slice none 0 0, .string (⟨#[]⟩), .slice none 0 0, .slice none 0 0]) rfl rfl) (.cons (res_tmp rfl) .nil)) rfl ?_
   exact ⟨zeroD, 2, rfl, ⟨zeroD_rd _, zeroD_at _, by unfold revS; rw [if_pos hb7, zeroD_tr]⟩, hM.bel⟩
theorem LiW_is1_3 : Is1 Tryz.prog 3 := ⟨⟨_, Tryz.underlying3, rfl⟩, by kernel_rfl⟩
theorem LiW_fld_30_0 : FieldAt Tryz.prog 30 0 0 := ⟨_, _, Tryz.underlying30, rfl, rfl, by kernel_rfl⟩
theorem LiW_fld_30_1 : FieldAt Tryz.prog 30 1 1 := ⟨_, _, Tryz.underlying30, rfl, rfl, by kernel_rfl⟩
theorem LiW_isS_30 : IsS Tryz.prog 30 11 := ⟨⟨_, Tryz.underlying30⟩, by kernel_rfl⟩
theorem nanW_any {w : World} {n : Int} : Calls Tryz.prog 86 #[.int .i64 n] w fun e w' => e = .returned (.bool false) ∧ Below w.heap.size w w' := by
 have hM : Mg w w ([]) := Mg.start w
 refine walk_of (l := [(0, .int .i64 n)]) Tryz.func86 rfl Tryz.ntmps86 rfl rfl ?_
 intro Q hret hnorm hP a hA
 refine wp_seq_k (fun K1 hK1 => ?_)
 refine wp_region_lit ?_
 refine seq_do hA rfl rfl rfl (does_assign rfl) ?_
 intro a hA
 refine seq_end ?_
 refine hK1 _ _ ?_
 refine wp_seq_k (fun K2 hK2 => ?_)
 refine wp_region_lit ?_
 refine seq_do hA rfl rfl rfl (does_move rfl) ?_
 intro a hA
 refine seq_do hA rfl rfl rfl (does_move rfl) ?_
 intro a hA
 refine seq_do (v := .bool false) hA rfl rfl rfl (does_bin rfl rfl (fun w => (bin_neq w).trans (by rw [show ((n != n)) = false from (bne_self_eq_false n)]))) ?_
 intro a hA
 refine seq_do hA rfl rfl rfl (does_assign rfl) ?_
 intro a hA
 refine seq_end ?_
 refine hK2 _ _ ?_
 refine wp_ret ?_
 refine hret _ _ ?_
 refine ends (v := .bool false) hA rfl (.cons (res_tmp rfl) .nil) rfl ?_
 exact ⟨rfl, hM.bel⟩
theorem cmpiW_any {w : World} {m n : Int} : Calls Tryz.prog 67 #[.int .i64 m, .int .i64 n] w fun e w' => e = .returned (.int .i64 (cmpI m n)) ∧ Below w.heap.size w w' := by
 have hM : Mg w w ([]) := Mg.start w
 refine walk_of (l := [(0, .int .i64 m), (1, .int .i64 n)]) Tryz.func67 rfl Tryz.ntmps67 rfl rfl ?_
 intro Q hret hnorm hP a hA
 refine wp_seq_k (fun K1 hK1 => ?_)
 refine wp_region_lit ?_
 refine seq_do hA rfl rfl rfl (does_assign rfl) ?_
 intro a hA
 refine seq_end ?_
 refine hK1 _ _ ?_
 refine wp_seq_k (fun K2 hK2 => ?_)
 refine wp_region_lit ?_
 refine seq_do hA rfl rfl rfl (does_move rfl) ?_
 intro a hA
 refine seq_call hA rfl rfl rfl (enters_func rfl rfl (fun w => by kernel_rfl)) (nanW_any) ?_
 rintro _ w4 ⟨rfl, hb3⟩
 replace hM := hM.call hb3
 refine ⟨_, rfl, ?_⟩
 intro a hA
 refine seq_do hA rfl rfl rfl (does_assign rfl) ?_
 intro a hA
 refine seq_end ?_
 refine hK2 _ _ ?_
 refine wp_seq_k (fun K5 hK5 => ?_)
 refine wp_region_lit ?_
 refine seq_do hA rfl rfl rfl (does_move rfl) ?_
 intro a hA
 refine seq_call hA rfl rfl rfl (enters_func rfl rfl (fun w => by kernel_rfl)) (nanW_any) ?_
 rintro _ w7 ⟨rfl, hb6⟩
 replace hM := hM.call hb6
 refine ⟨_, rfl, ?_⟩
 intro a hA
 refine seq_do hA rfl rfl rfl (does_assign rfl) ?_
 intro a hA
 refine seq_end ?_
 refine hK5 _ _ ?_
 refine wp_seq_k (fun K8 hK8 => ?_)
 refine wp_seq_k (fun K9 hK9 => ?_)
 refine wp_region_lit ?_
 refine seq_do hA rfl rfl rfl (does_move rfl) ?_
 intro a hA
 refine seq_end ?_
 refine hK9 _ _ ?_
 refine wp_cond_false (hA.ev rfl) ?_
 refine wp_skip ?_
 refine hK8 _ _ ?_
 refine wp_seq_k (fun K10 hK10 => ?_)
 refine wp_seq_k (fun K11 hK11 => ?_)
 refine wp_region_lit ?_
 refine seq_do hA rfl rfl rfl (does_move rfl) ?_
 intro a hA
 refine seq_end ?_
 refine hK11 _ _ ?_
 refine wp_cond_false (hA.ev rfl) ?_
 refine wp_skip ?_
 refine hK10 _ _ ?_
 refine wp_seq_k (fun K12 hK12 => ?_)
 refine wp_seq_k (fun K13 hK13 => ?_)
 refine wp_region_lit ?_
 refine seq_do hA rfl rfl rfl (does_move rfl) ?_
 intro a hA
 refine seq_do hA rfl rfl rfl (does_move rfl) ?_
 intro a hA
 rcases Bool.eq_false_or_eq_true (decide (m < n)) with hb14 | hb14
 · have hb14' := of_decide_eq_true hb14
   refine seq_do (v := .bool true) hA rfl rfl rfl (does_bin rfl rfl (fun w => (bin_lss w).trans (by rw [hb14]))) ?_
   intro a hA
   refine seq_end ?_
   refine hK13 _ _ ?_
   refine wp_cond_true (hA.ev rfl) ?_
   refine wp_seq_k (fun K15 hK15 => ?_)
   refine wp_region_lit ?_
   refine seq_do hA rfl rfl rfl (does_assign rfl) ?_
   intro a hA
   refine seq_end ?_
   refine hK15 _ _ ?_
   refine wp_ret ?_
   refine hret _ _ ?_
   refine ends (v := .int .i64 (-1)) hA rfl (.cons (res_tmp rfl) .nil) rfl ?_
   exact ⟨by rw [show cmpI m n = -1 from by unfold cmpI; (repeat' split) <;> omega], hM.bel⟩
 · have hb14' := of_decide_eq_false hb14
   refine seq_do (v := .bool false) hA rfl rfl rfl (does_bin rfl rfl (fun w => (bin_lss w).trans (by rw [hb14]))) ?_
   intro a hA
   refine seq_end ?_
   refine hK13 _ _ ?_
   refine wp_cond_false (hA.ev rfl) ?_
   refine wp_skip ?_
   refine hK12 _ _ ?_
   refine wp_seq_k (fun K16 hK16 => ?_)
   refine wp_seq_k (fun K17 hK17 => ?_)
   refine wp_region_lit ?_
   refine seq_do hA rfl rfl rfl (does_move rfl) ?_
   intro a hA
   refine seq_do hA rfl rfl rfl (does_move rfl) ?_
   intro a hA
   rcases Bool.eq_false_or_eq_true (decide (n < m)) with hb18 | hb18
   · have hb18' := of_decide_eq_true hb18
     refine seq_do (v := .bool true) hA rfl rfl rfl (does_bin rfl rfl (fun w => (bin_gtr w).trans (by rw [hb18]))) ?_
     intro a hA
     refine seq_end ?_
     refine hK17 _ _ ?_
     refine wp_cond_true (hA.ev rfl) ?_
     refine wp_seq_k (fun K19 hK19 => ?_)
     refine wp_region_lit ?_
     refine seq_do hA rfl rfl rfl (does_assign rfl) ?_
     intro a hA
     refine seq_end ?_
     refine hK19 _ _ ?_
     refine wp_ret ?_
     refine hret _ _ ?_
     refine ends (v := .int .i64 1) hA rfl (.cons (res_tmp rfl) .nil) rfl ?_
     exact ⟨by rw [show cmpI m n = 1 from by unfold cmpI; (repeat' split) <;> omega], hM.bel⟩
   · have hb18' := of_decide_eq_false hb18
     refine seq_do (v := .bool false) hA rfl rfl rfl (does_bin rfl rfl (fun w => (bin_gtr w).trans (by rw [hb18]))) ?_
     intro a hA
     refine seq_end ?_
     refine hK17 _ _ ?_
     refine wp_cond_false (hA.ev rfl) ?_
     refine wp_skip ?_
     refine hK16 _ _ ?_
     refine wp_seq_k (fun K20 hK20 => ?_)
     refine wp_region_lit ?_
     refine seq_do hA rfl rfl rfl (does_assign rfl) ?_
     intro a hA
     refine seq_end ?_
     refine hK20 _ _ ?_
     refine wp_ret ?_
     refine hret _ _ ?_
     refine ends (v := .int .i64 0) hA rfl (.cons (res_tmp rfl) .nil) rfl ?_
     exact ⟨by rw [show cmpI m n = 0 from by unfold cmpI; (repeat' split) <;> omega], hM.bel⟩
theorem orderW_any {w : World} {t u : Dt} (h4 : t.d.k = 4) (h5 : u.d.k = 4) : Calls Tryz.prog 48 #[.agg (t.d.cells t.ts.length).toArray, .agg (u.d.cells u.ts.length).toArray] w fun e w' => e = .returned (.int .i64 (cmpI t.d.n u.d.n)) ∧ Below w.heap.size w w' := by
 have hM : Mg w w ([]) := Mg.start w
 refine walk_of (l := [(0, .agg (t.d.cells t.ts.length).toArray), (1, .agg (u.d.cells u.ts.length).toArray)]) Tryz.func48 rfl Tryz.ntmps48 rfl rfl ?_
 intro Q hret hnorm hP a hA
 refine wp_seq_k (fun K1 hK1 => ?_)
 refine wp_region_lit ?_
 refine s_new (vs := [.int .i64 t.d.k, .int .i64 t.d.n, .bool t.d.y.q.b1, .slice t.d.y.o1 t.d.y.q.t1.length t.d.y.c1, .slice t.d.y.o2 t.d.y.q.q1.length t.d.y.c2, .bool t.d.y.q.b2, .slice t.d.y.o3 t.d.y.q.t2.length t.d.y.c3, .slice t.d.y.o4 t.d.y.q.q2.length t.d.y.c4, .string t.d.s, .slice t.d.ro t.d.rl.length t.d.rc, .slice t.d.lo t.ts.length t.d.lc]) (t := 30) hA hM rfl rfl rfl (fun g => .pointer (some ⟨g, 0, none⟩)) (does_box rfl rfl) (by decide) ?_
 intro g2 w3 hM a hA
 refine s_new (vs := [.int .i64 u.d.k, .int .i64 u.d.n, .bool u.d.y.q.b1, .slice u.d.y.o1 u.d.y.q.t1.length u.d.y.c1, .slice u.d.y.o2 u.d.y.q.q1.length u.d.y.c2, .bool u.d.y.q.b2, .slice u.d.y.o3 u.d.y.q.t2.length u.d.y.c3, .slice u.d.y.o4 u.d.y.q.q2.length u.d.y.c4, .string u.d.s, .slice u.d.ro u.d.rl.length u.d.rc, .slice u.d.lo u.ts.length u.d.lc]) (t := 30) hA hM rfl rfl rfl (fun g => .pointer (some ⟨g, 0, none⟩)) (does_box rfl rfl) (by decide) ?_
 intro g4 w5 hM a hA
 refine seq_do hA rfl rfl rfl (does_assign rfl) ?_
 intro a hA
 refine seq_end ?_
 refine hK1 _ _ ?_
 refine wp_seq_k (fun K6 hK6 => ?_)
 refine wp_block ?_
 refine wp_loop_rounds 12 ?_
 refine rounds_k (fun K7 hK7 => ?_)
 refine wp_seq_k (fun K8 hK8 => ?_)
 refine wp_seq_k (fun K9 hK9 => ?_)
 refine wp_region_lit ?_
 refine seq_do (v := .pointer (some ⟨g2, 0, none⟩)) hA rfl rfl rfl (does_field LiW_fld_30_0 rfl rfl) ?_
 intro a hA
 refine seq_do hA rfl rfl rfl (m_load1 hM LiW_is1_3 rfl 1 rfl rfl) ?_
 intro a hA
 refine seq_do (v := .bool false) hA rfl rfl rfl (does_bin rfl rfl (fun w => (bin_eql w).trans (by rw [show ((t.d.k == 8)) = false from (beq_eq_false_iff_ne.2 (by omega))]))) ?_
 intro a hA
 refine seq_do hA rfl rfl rfl (does_move rfl) ?_
 intro a hA
 refine seq_skip hA rfl rfl rfl ?_
 intro a hA
 refine seq_skip hA rfl rfl rfl ?_
 intro a hA
 refine seq_skip hA rfl rfl rfl ?_
 intro a hA
 refine seq_do (v := .bool false) hA rfl rfl rfl (does_pick rfl rfl rfl rfl) ?_
 intro a hA
 refine seq_end ?_
 refine hK9 _ _ ?_
 refine wp_cond_false (hA.ev rfl) ?_
 refine wp_exit ?_
 refine hK6 _ _ ?_
 refine wp_seq_k (fun K10 hK10 => ?_)
 refine wp_seq_k (fun K11 hK11 => ?_)
 refine wp_region_lit ?_
 refine seq_do (v := .pointer (some ⟨g2, 0, none⟩)) hA rfl rfl rfl (does_field LiW_fld_30_0 rfl rfl) ?_
 intro a hA
 refine seq_do hA rfl rfl rfl (m_load1 hM LiW_is1_3 rfl 1 rfl rfl) ?_
 intro a hA
 refine seq_do (v := .pointer (some ⟨g4, 0, none⟩)) hA rfl rfl rfl (does_field LiW_fld_30_0 rfl rfl) ?_
 intro a hA
 refine seq_do hA rfl rfl rfl (m_load1 hM LiW_is1_3 rfl 0 rfl rfl) ?_
 intro a hA
 refine seq_do (v := .bool false) hA rfl rfl rfl (does_bin rfl rfl (fun w => (bin_neq w).trans (by rw [show ((t.d.k != u.d.k)) = false from (bne_eq_false_iff_eq.2 (by omega))]))) ?_
 intro a hA
 refine seq_end ?_
 refine hK11 _ _ ?_
 refine wp_cond_false (hA.ev rfl) ?_
 refine wp_skip ?_
 refine hK10 _ _ ?_
 refine wp_seq_k (fun K12 hK12 => ?_)
 refine wp_seq_k (fun K13 hK13 => ?_)
 refine wp_region_lit ?_
 refine seq_do (v := .pointer (some ⟨g2, 0, none⟩)) hA rfl rfl rfl (does_field LiW_fld_30_0 rfl rfl) ?_
 intro a hA
 refine seq_do hA rfl rfl rfl (m_load1 hM LiW_is1_3 rfl 1 rfl rfl) ?_
 intro a hA
 refine seq_end ?_
 refine hK13 _ _ ?_
 refine wp_block ?_
 refine wp_seq_k (fun K14 hK14 => ?_)
 refine wp_seq_k (fun K15 hK15 => ?_)
 refine wp_region_lit ?_
 refine seq_do (v := .bool false) hA rfl rfl rfl (does_bin rfl rfl (fun w => (bin_eql w).trans (by rw [show ((t.d.k == 2)) = false from (beq_eq_false_iff_ne.2 (by omega))]))) ?_
 intro a hA
 refine seq_do hA rfl rfl rfl (does_assign rfl) ?_
 intro a hA
 refine seq_end ?_
 refine hK15 _ _ ?_
 refine wp_cond_false (hA.ev rfl) ?_
 refine wp_region_lit ?_
 refine seq_do (v := .bool true) hA rfl rfl rfl (does_bin rfl rfl (fun w => (bin_eql w).trans (by rw [show ((t.d.k == 4)) = true from (beq_iff_eq.2 h4)]))) ?_
 intro a hA
 refine seq_do hA rfl rfl rfl (does_assign rfl) ?_
 intro a hA
 refine seq_end ?_
 refine hK14 _ _ ?_
 refine wp_cond_true (hA.ev rfl) ?_
 refine wp_seq_k (fun K16 hK16 => ?_)
 refine wp_region_lit ?_
 refine seq_do (v := .pointer (some ⟨g2, 1, none⟩)) hA rfl rfl rfl (does_field LiW_fld_30_1 rfl rfl) ?_
 intro a hA
 refine seq_do hA rfl rfl rfl (m_load1 hM LiW_is1_3 rfl 1 rfl rfl) ?_
 intro a hA
 refine seq_do (v := .pointer (some ⟨g4, 1, none⟩)) hA rfl rfl rfl (does_field LiW_fld_30_1 rfl rfl) ?_
 intro a hA
 refine seq_do hA rfl rfl rfl (m_load1 hM LiW_is1_3 rfl 0 rfl rfl) ?_
 intro a hA
 refine seq_call hA rfl rfl rfl (enters_func rfl rfl (fun w => by kernel_rfl)) (cmpiW_any) ?_
 rintro _ w18 ⟨rfl, hb17⟩
 replace hM := hM.call hb17
 refine ⟨_, rfl, ?_⟩
 intro a hA
 refine seq_do hA rfl rfl rfl (does_assign rfl) ?_
 intro a hA
 refine seq_end ?_
 refine hK16 _ _ ?_
 refine wp_ret ?_
 refine hret _ _ ?_
 refine ends (v := .int .i64 (cmpI t.d.n u.d.n)) hA rfl (.cons (res_tmp rfl) .nil) rfl ?_
 exact ⟨rfl, hM.bel⟩
theorem bothW_any {w : World} {t u : Dt} (ht : t.rd w) (hu : u.rd w) (s1 : soundT shapeT t.tr = true) (s2 : soundT shapeT u.tr = true) (hT : Tabs8 w) : Calls Tryz.prog 47 #[.agg (t.d.cells t.ts.length).toArray, .agg (u.d.cells u.ts.length).toArray] w fun e w' => e = .returned (.bool true) ∧ Below w.heap.size w w' := by
 have hM : Mg w w ([]) := Mg.start w
 refine walk_of (l := [(0, .agg (t.d.cells t.ts.length).toArray), (1, .agg (u.d.cells u.ts.length).toArray)]) Tryz.func47 rfl Tryz.ntmps47 rfl rfl ?_
 intro Q hret hnorm hP a hA
 refine wp_seq_k (fun K1 hK1 => ?_)
 refine wp_region_lit ?_
 refine s_new (vs := [.int .i64 t.d.k, .int .i64 t.d.n, .bool t.d.y.q.b1, .slice t.d.y.o1 t.d.y.q.t1.length t.d.y.c1, .slice t.d.y.o2 t.d.y.q.q1.length t.d.y.c2, .bool t.d.y.q.b2, .slice t.d.y.o3 t.d.y.q.t2.length t.d.y.c3, .slice t.d.y.o4 t.d.y.q.q2.length t.d.y.c4, .string t.d.s, .slice t.d.ro t.d.rl.length t.d.rc, .slice t.d.lo t.ts.length t.d.lc]) (t := 30) hA hM rfl rfl rfl (fun g => .pointer (some ⟨g, 0, none⟩)) (does_box rfl rfl) (by decide) ?_
 intro g2 w3 hM a hA
 refine s_new (vs := [.int .i64 u.d.k, .int .i64 u.d.n, .bool u.d.y.q.b1, .slice u.d.y.o1 u.d.y.q.t1.length u.d.y.c1, .slice u.d.y.o2 u.d.y.q.q1.length u.d.y.c2, .bool u.d.y.q.b2, .slice u.d.y.o3 u.d.y.q.t2.length u.d.y.c3, .slice u.d.y.o4 u.d.y.q.q2.length u.d.y.c4, .string u.d.s, .slice u.d.ro u.d.rl.length u.d.rc, .slice u.d.lo u.ts.length u.d.lc]) (t := 30) hA hM rfl rfl rfl (fun g => .pointer (some ⟨g, 0, none⟩)) (does_box rfl rfl) (by decide) ?_
 intro g4 w5 hM a hA
 refine seq_do hA rfl rfl rfl (does_assign rfl) ?_
 intro a hA
 refine seq_end ?_
 refine hK1 _ _ ?_
 refine wp_seq_k (fun K6 hK6 => ?_)
 refine wp_region_lit ?_
 refine seq_do hA rfl rfl rfl (m_loadS hM LiW_isS_30 rfl 1 rfl (cs := [.int .i64 t.d.k, .int .i64 t.d.n, .bool t.d.y.q.b1, .slice t.d.y.o1 t.d.y.q.t1.length t.d.y.c1, .slice t.d.y.o2 t.d.y.q.q1.length t.d.y.c2, .bool t.d.y.q.b2, .slice t.d.y.o3 t.d.y.q.t2.length t.d.y.c3, .slice t.d.y.o4 t.d.y.q.q2.length t.d.y.c4, .string t.d.s, .slice t.d.ro t.d.rl.length t.d.rc, .slice t.d.lo t.ts.length t.d.lc]) rfl rfl) ?_
 intro a hA
 refine seq_call hA rfl rfl rfl (enters_func rfl rfl (fun w => by kernel_rfl)) ((s1 ▸ sound_any (t := t) (Dt.keep hM.bel _ ht) (hT.below hM.bel))) ?_
 rintro _ w8 ⟨rfl, hb7⟩
 replace hM := hM.call hb7
 refine ⟨_, rfl, ?_⟩
 intro a hA
 refine seq_do hA rfl rfl rfl (does_move rfl) ?_
 intro a hA
 refine seq_do hA rfl rfl rfl (m_loadS hM LiW_isS_30 rfl 0 rfl (cs := [.int .i64 u.d.k, .int .i64 u.d.n, .bool u.d.y.q.b1, .slice u.d.y.o1 u.d.y.q.t1.length u.d.y.c1, .slice u.d.y.o2 u.d.y.q.q1.length u.d.y.c2, .bool u.d.y.q.b2, .slice u.d.y.o3 u.d.y.q.t2.length u.d.y.c3, .slice u.d.y.o4 u.d.y.q.q2.length u.d.y.c4, .string u.d.s, .slice u.d.ro u.d.rl.length u.d.rc, .slice u.d.lo u.ts.length u.d.lc]) rfl rfl) ?_
 intro a hA
 refine seq_call hA rfl rfl rfl (enters_func rfl rfl (fun w => by kernel_rfl)) ((s2 ▸ sound_any (t := u) (Dt.keep hM.bel _ hu) (hT.below hM.bel))) ?_
 rintro _ w10 ⟨rfl, hb9⟩
 replace hM := hM.call hb9
 refine ⟨_, rfl, ?_⟩
 intro a hA
 refine seq_do (v := .bool true) hA rfl rfl rfl (does_pick rfl rfl rfl rfl) ?_
 intro a hA
 refine seq_do hA rfl rfl rfl (does_assign rfl) ?_
 intro a hA
 refine seq_end ?_
 refine hK6 _ _ ?_
 refine wp_ret ?_
 refine hret _ _ ?_
 refine ends (v := .bool true) hA rfl (.cons (res_tmp rfl) .nil) rfl ?_
 exact ⟨rfl, hM.bel⟩
theorem cmpW_any {w : World} {t u : Dt} (h4 : t.d.k = 4) (h5 : u.d.k = 4) (ht : t.rd w) (hu : u.rd w) (s1 : soundT shapeT t.tr = true) (s2 : soundT shapeT u.tr = true) (hT : Tabs8 w) : Calls Tryz.prog 22 #[.agg (t.d.cells t.ts.length).toArray, .agg (u.d.cells u.ts.length).toArray] w fun e w' => e = .returned (.int .i64 (cmpI t.d.n u.d.n)) ∧ Below w.heap.size w w' := by
 have hM : Mg w w ([]) := Mg.start w
 refine walk_of (l := [(0, .agg (t.d.cells t.ts.length).toArray), (1, .agg (u.d.cells u.ts.length).toArray)]) Tryz.func22 rfl Tryz.ntmps22 rfl rfl ?_
 intro Q hret hnorm hP a hA
 refine wp_seq_k (fun K1 hK1 => ?_)
 refine wp_region_lit ?_
 refine s_new (vs := [.int .i64 t.d.k, .int .i64 t.d.n, .bool t.d.y.q.b1, .slice t.d.y.o1 t.d.y.q.t1.length t.d.y.c1, .slice t.d.y.o2 t.d.y.q.q1.length t.d.y.c2, .bool t.d.y.q.b2, .slice t.d.y.o3 t.d.y.q.t2.length t.d.y.c3, .slice t.d.y.o4 t.d.y.q.q2.length t.d.y.c4, .string t.d.s, .slice t.d.ro t.d.rl.length t.d.rc, .slice t.d.lo t.ts.length t.d.lc]) (t := 30) hA hM rfl rfl rfl (fun g => .pointer (some ⟨g, 0, none⟩)) (does_box rfl rfl) (by decide) ?_
 intro g2 w3 hM a hA
 refine s_new (vs := [.int .i64 u.d.k, .int .i64 u.d.n, .bool u.d.y.q.b1, .slice u.d.y.o1 u.d.y.q.t1.length u.d.y.c1, .slice u.d.y.o2 u.d.y.q.q1.length u.d.y.c2, .bool u.d.y.q.b2, .slice u.d.y.o3 u.d.y.q.t2.length u.d.y.c3, .slice u.d.y.o4 u.d.y.q.q2.length u.d.y.c4, .string u.d.s, .slice u.d.ro u.d.rl.length u.d.rc, .slice u.d.lo u.ts.length u.d.lc]) (t := 30) hA hM rfl rfl rfl (fun g => .pointer (some ⟨g, 0, none⟩)) (does_box rfl rfl) (by decide) ?_
 intro g4 w5 hM a hA
 refine seq_do hA rfl rfl rfl (does_assign rfl) ?_
 intro a hA
 refine seq_end ?_
 refine hK1 _ _ ?_
 refine wp_seq_k (fun K6 hK6 => ?_)
 refine wp_seq_k (fun K7 hK7 => ?_)
 refine wp_region_lit ?_
 refine seq_do hA rfl rfl rfl (m_loadS hM LiW_isS_30 rfl 1 rfl (cs := [.int .i64 t.d.k, .int .i64 t.d.n, .bool t.d.y.q.b1, .slice t.d.y.o1 t.d.y.q.t1.length t.d.y.c1, .slice t.d.y.o2 t.d.y.q.q1.length t.d.y.c2, .bool t.d.y.q.b2, .slice t.d.y.o3 t.d.y.q.t2.length t.d.y.c3, .slice t.d.y.o4 t.d.y.q.q2.length t.d.y.c4, .string t.d.s, .slice t.d.ro t.d.rl.length t.d.rc, .slice t.d.lo t.ts.length t.d.lc]) rfl rfl) ?_
 intro a hA
 refine seq_do hA rfl rfl rfl (m_loadS hM LiW_isS_30 rfl 0 rfl (cs := [.int .i64 u.d.k, .int .i64 u.d.n, .bool u.d.y.q.b1, .slice u.d.y.o1 u.d.y.q.t1.length u.d.y.c1, .slice u.d.y.o2 u.d.y.q.q1.length u.d.y.c2, .bool u.d.y.q.b2, .slice u.d.y.o3 u.d.y.q.t2.length u.d.y.c3, .slice u.d.y.o4 u.d.y.q.q2.length u.d.y.c4, .string u.d.s, .slice u.d.ro u.d.rl.length u.d.rc, .slice u.d.lo u.ts.length u.d.lc]) rfl rfl) ?_
 intro a hA
 refine seq_call hA rfl rfl rfl (enters_func rfl rfl (fun w => by kernel_rfl)) (bothW_any (Dt.keep hM.bel _ ht) (Dt.keep hM.bel _ hu) s1 s2 (hT.below hM.bel)) ?_
 rintro _ w9 ⟨rfl, hb8⟩
 replace hM := hM.call hb8
 refine ⟨_, rfl, ?_⟩
 intro a hA
 refine seq_do (v := .bool false) hA rfl rfl rfl (does_un rfl un_not) ?_
 intro a hA
 refine seq_end ?_
 refine hK7 _ _ ?_
 refine wp_cond_false (hA.ev rfl) ?_
 refine wp_skip ?_
 refine hK6 _ _ ?_
 refine wp_seq_k (fun K10 hK10 => ?_)
 refine wp_region_lit ?_
 refine seq_do hA rfl rfl rfl (m_loadS hM LiW_isS_30 rfl 1 rfl (cs := [.int .i64 t.d.k, .int .i64 t.d.n, .bool t.d.y.q.b1, .slice t.d.y.o1 t.d.y.q.t1.length t.d.y.c1, .slice t.d.y.o2 t.d.y.q.q1.length t.d.y.c2, .bool t.d.y.q.b2, .slice t.d.y.o3 t.d.y.q.t2.length t.d.y.c3, .slice t.d.y.o4 t.d.y.q.q2.length t.d.y.c4, .string t.d.s, .slice t.d.ro t.d.rl.length t.d.rc, .slice t.d.lo t.ts.length t.d.lc]) rfl rfl) ?_
 intro a hA
 refine seq_do hA rfl rfl rfl (m_loadS hM LiW_isS_30 rfl 0 rfl (cs := [.int .i64 u.d.k, .int .i64 u.d.n, .bool u.d.y.q.b1, .slice u.d.y.o1 u.d.y.q.t1.length u.d.y.c1, .slice u.d.y.o2 u.d.y.q.q1.length u.d.y.c2, .bool u.d.y.q.b2, .slice u.d.y.o3 u.d.y.q.t2.length u.d.y.c3, .slice u.d.y.o4 u.d.y.q.q2.length u.d.y.c4, .string u.d.s, .slice u.d.ro u.d.rl.length u.d.rc, .slice u.d.lo u.ts.length u.d.lc]) rfl rfl) ?_
 intro a hA
 refine seq_call hA rfl rfl rfl (enters_func rfl rfl (fun w => by kernel_rfl)) (orderW_any h4 h5) ?_
 rintro _ w12 ⟨rfl, hb11⟩
 replace hM := hM.call hb11
 refine ⟨_, rfl, ?_⟩
 intro a hA
 refine seq_do hA rfl rfl rfl (does_assign rfl) ?_
 intro a hA
 refine seq_end ?_
 refine hK10 _ _ ?_
 refine wp_ret ?_
 refine hret _ _ ?_
 refine ends (v := .int .i64 (cmpI t.d.n u.d.n)) hA rfl (.cons (res_tmp rfl) .nil) rfl ?_
 exact ⟨rfl, hM.bel⟩
end Go.Proofs.YtofbejppkldhnaaGreatDoor.G
