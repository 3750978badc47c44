/- The walks of CodecEncodes and CodecDecodes. -/
import Derived.Test.YtcjgjbaadmohbaaCpG
import Derived.Test.YtcjgjbaadmohbaaCoK
import Derived.Test.YtcjgjbaadmohbaaMu
namespace Go.Proofs.Ytcjgjbaadmohbaa
open Go.RowKit
set_option linter.unusedVariables false
set_option linter.unusedSimpArgs false
set_option maxRecDepth 100000
theorem CpI_isS_23 : IsS Try.prog 23 3 := ⟨⟨_, Try.underlying23⟩, by kernel_rfl⟩
theorem encodes_any {w : World} {c k m : Int} {s : ByteArray} : Calls Try.prog 4 #[.agg #[.int .i64 c, .int .i64 k, .int .i64 m], .string s] w fun e w' => e = .returned (.bool true) ∧ Below w.heap.size w w' := by
 have hM : Mg w w ([]) := Mg.start w
 refine walk_of (l := [(0, .agg #[.int .i64 c, .int .i64 k, .int .i64 m]), (1, .string s)]) Try.func4 rfl Try.ntmps4 rfl rfl ?_
 intro Q hret hnorm hP a hA
 refine wp_seq_k (fun K1 hK1 => ?_)
 refine wp_region_lit ?_
 refine s_new (vs := [.int .i64 c, .int .i64 k, .int .i64 m]) (t := 23) hA hM rfl rfl rfl (fun g => .pointer (some ⟨g, 0, none⟩)) (does_box rfl rfl) (by decide) ?_
 intro g2 w3 hM a hA
 refine seq_do hA rfl rfl rfl (does_assign rfl) ?_
 intro a hA
 refine seq_end ?_
 refine hK1 _ _ ?_
 refine wp_seq_k (fun K4 hK4 => ?_)
 refine wp_region_lit ?_
 refine seq_do hA rfl rfl rfl (m_loadS hM CpI_isS_23 rfl 0 rfl (cs := [.int .i64 c, .int .i64 k, .int .i64 m]) rfl rfl) ?_
 intro a hA
 refine seq_do hA rfl rfl rfl (does_move rfl) ?_
 intro a hA
 refine seq_call hA rfl rfl rfl (enters_func rfl rfl (fun w => by kernel_rfl)) (encode_any (c := c) (k := k) (m := m) (s := s) rfl) ?_
 rintro _ w10 ⟨v5, rfl, hn6, hM7⟩
 obtain ⟨so8, ca9, rfl⟩ := owns_slice (hM7.has 0 rfl)
 replace hM : Mg w w10 (.row BY 1 (.slice so8 ((encS c k m s).1.length) ca9) ((encS c k m s).1.length) ((Lib.byteCells (encS c k m s).1)) :: .obj g2 (.cells #[.int .i64 c, .int .i64 k, .int .i64 m] 23) :: []) := (hM.both hM7 (noBld_cons (by simp) (noBld_quiet quietL_nil)) (noBld_cons (by simp) (noBld_quiet quietL_nil)))
 refine ⟨_, rfl, ?_⟩
 intro a hA
 refine seq_do hA rfl rfl rfl (does_move rfl) ?_
 intro a hA
 refine seq_do (v := .slice so8 ((encS c k m s).1.length) ca9) hA rfl rfl rfl (does_extract (vs := [.slice so8 ((encS c k m s).1.length) ca9, .int .i64 ((encS c k m s).2.1), .int .i64 ((encS c k m s).2.2)]) rfl rfl) ?_
 intro a hA
 refine seq_do (v := .int .i64 ((encS c k m s).2.1)) hA rfl rfl rfl (does_extract (vs := [.slice so8 ((encS c k m s).1.length) ca9, .int .i64 ((encS c k m s).2.1), .int .i64 ((encS c k m s).2.2)]) rfl rfl) ?_
 intro a hA
 refine seq_do (v := .int .i64 ((encS c k m s).2.2)) hA rfl rfl rfl (does_extract (vs := [.slice so8 ((encS c k m s).1.length) ca9, .int .i64 ((encS c k m s).2.1), .int .i64 ((encS c k m s).2.2)]) rfl rfl) ?_
 intro a hA
 refine seq_do hA rfl rfl rfl (does_assign rfl) ?_
 intro a hA
 refine seq_do hA rfl rfl rfl (does_assign rfl) ?_
 intro a hA
 refine seq_do hA rfl rfl rfl (does_assign rfl) ?_
 intro a hA
 refine seq_end ?_
 refine hK4 _ _ ?_
 refine wp_seq_k (fun K11 hK11 => ?_)
 refine wp_region_lit ?_
 refine seq_do hA rfl rfl rfl (m_loadS hM CpI_isS_23 rfl 1 rfl (cs := [.int .i64 c, .int .i64 k, .int .i64 m]) rfl rfl) ?_
 intro a hA
 refine seq_do hA rfl rfl rfl (does_move rfl) ?_
 intro a hA
 refine seq_call hA rfl rfl rfl (enters_func rfl rfl (fun w => by kernel_rfl)) (rencode_any (c := c) (k := k) (m := m) (s := s) rfl rfl) ?_
 rintro _ w17 ⟨v12, rfl, hn13, hM14⟩
 obtain ⟨so15, ca16, rfl⟩ := owns_slice (hM14.has 0 rfl)
 replace hM : Mg w w17 (.row BY 1 (.slice so15 ((encS c k m s).1.length) ca16) ((encS c k m s).1.length) ((Lib.byteCells (encS c k m s).1)) :: .row BY 1 (.slice so8 ((encS c k m s).1.length) ca9) ((encS c k m s).1.length) ((Lib.byteCells (encS c k m s).1)) :: .obj g2 (.cells #[.int .i64 c, .int .i64 k, .int .i64 m] 23) :: []) := (hM.both hM14 (noBld_cons (by simp) (noBld_cons (by simp) (noBld_quiet quietL_nil))) (noBld_cons (by simp) (noBld_quiet quietL_nil)))
 refine ⟨_, rfl, ?_⟩
 intro a hA
 refine seq_do hA rfl rfl rfl (does_move rfl) ?_
 intro a hA
 refine seq_do (v := .slice so15 ((encS c k m s).1.length) ca16) hA rfl rfl rfl (does_extract (vs := [.slice so15 ((encS c k m s).1.length) ca16, .int .i64 ((encS c k m s).2.1), .int .i64 ((encS c k m s).2.2)]) rfl rfl) ?_
 intro a hA
 refine seq_do (v := .int .i64 ((encS c k m s).2.1)) hA rfl rfl rfl (does_extract (vs := [.slice so15 ((encS c k m s).1.length) ca16, .int .i64 ((encS c k m s).2.1), .int .i64 ((encS c k m s).2.2)]) rfl rfl) ?_
 intro a hA
 refine seq_do (v := .int .i64 ((encS c k m s).2.2)) hA rfl rfl rfl (does_extract (vs := [.slice so15 ((encS c k m s).1.length) ca16, .int .i64 ((encS c k m s).2.1), .int .i64 ((encS c k m s).2.2)]) rfl rfl) ?_
 intro a hA
 refine seq_do hA rfl rfl rfl (does_assign rfl) ?_
 intro a hA
 refine seq_do hA rfl rfl rfl (does_assign rfl) ?_
 intro a hA
 refine seq_do hA rfl rfl rfl (does_assign rfl) ?_
 intro a hA
 refine seq_end ?_
 refine hK11 _ _ ?_
 refine wp_seq_k (fun K18 hK18 => ?_)
 refine wp_region_lit ?_
 refine seq_call hA rfl rfl rfl (enters_func rfl rfl (fun w => by kernel_rfl)) (awake_any) ?_
 rintro _ w20 ⟨rfl, hb19⟩
 replace hM := hM.call hb19
 refine ⟨_, rfl, ?_⟩
 intro a hA
 refine seq_do hA rfl rfl rfl (does_move rfl) ?_
 intro a hA
 refine seq_do hA rfl rfl rfl (does_move rfl) ?_
 intro a hA
 refine seq_do hA rfl rfl rfl (does_move rfl) ?_
 intro a hA
 refine seq_call hA rfl rfl rfl (enters_func rfl rfl (fun w => by kernel_rfl)) (same_eq hM 1 0 (xs := (encS c k m s).1) (ys := (encS c k m s).1) rfl rfl (by omega) rfl) ?_
 rintro _ w22 ⟨rfl, hb21⟩
 replace hM := hM.call hb21
 refine ⟨_, rfl, ?_⟩
 intro a hA
 refine seq_do (v := .bool true) hA rfl rfl rfl (does_pick rfl rfl rfl rfl) ?_
 intro a hA
 refine seq_do hA rfl rfl rfl (does_move rfl) ?_
 intro a hA
 refine seq_do hA rfl rfl rfl (does_move rfl) ?_
 intro a hA
 refine seq_do hA rfl rfl rfl (does_move rfl) ?_
 intro a hA
 refine seq_do (v := .bool true) hA rfl rfl rfl (does_bin rfl rfl (fun w => (bin_eql w).trans (by rw [show (((encS c k m s).2.1 == (encS c k m s).2.1)) = true from beq_self_eq_true _]))) ?_
 intro a hA
 refine seq_do (v := .bool true) hA rfl rfl rfl (does_pick rfl rfl rfl rfl) ?_
 intro a hA
 refine seq_do hA rfl rfl rfl (does_move rfl) ?_
 intro a hA
 refine seq_do hA rfl rfl rfl (does_move rfl) ?_
 intro a hA
 refine seq_do hA rfl rfl rfl (does_move rfl) ?_
 intro a hA
 refine seq_do (v := .bool true) hA rfl rfl rfl (does_bin rfl rfl (fun w => (bin_eql w).trans (by rw [show (((encS c k m s).2.2 == (encS c k m s).2.2)) = true from beq_self_eq_true _]))) ?_
 intro a hA
 refine seq_do (v := .bool true) hA rfl rfl rfl (does_pick rfl rfl rfl rfl) ?_
 intro a hA
 refine seq_do hA rfl rfl rfl (does_assign rfl) ?_
 intro a hA
 refine seq_end ?_
 refine hK18 _ _ ?_
 refine wp_ret ?_
 refine hret _ _ ?_
 refine ends (v := .bool true) hA rfl (.cons (res_tmp rfl) .nil) rfl ?_
 exact ⟨rfl, hM.bel⟩
theorem decode_row {w0 w : World} {L : List Ck} {c k m : Int} (hM : Mg w0 w L) (i : Nat) {v : Value} {n : Nat} {l : List UInt8} (hi : L[i]? = some (.row BY 1 v n (Lib.byteCells l))) : Calls Try.prog 7 #[.agg #[.int .i64 c, .int .i64 k, .int .i64 m], v] w fun e w' => e = .returned (.tuple #[.string ⟨(decS c k m l).1.toArray⟩, .int .i64 (decS c k m l).2.1, .int .i64 (decS c k m l).2.2]) ∧ Below w.heap.size w w' := by
  obtain ⟨so, ca, rfl⟩ := owns_slice (hM.has i hi)
  obtain ⟨h1, rfl⟩ := rb_row hM i hi
  exact decode_any (c := c) (k := k) (m := m) h1 rfl
theorem decodes_any {w : World} {c k m : Int} {so : Option Addr} {cap : Nat} {l : List UInt8} (hb : Rb w so l) (hl : l.length ≤ 140737488351232) : Calls Try.prog 3 #[.agg #[.int .i64 c, .int .i64 k, .int .i64 m], .slice so l.length cap] w fun e w' => e = .returned (.bool true) ∧ Below w.heap.size w w' := by
 have hM : Mg w w ([]) := Mg.start w
 refine walk_of (l := [(0, .agg #[.int .i64 c, .int .i64 k, .int .i64 m]), (1, .slice so l.length cap)]) Try.func3 rfl Try.ntmps3 rfl rfl ?_
 intro Q hret hnorm hP a hA
 refine wp_seq_k (fun K1 hK1 => ?_)
 refine wp_region_lit ?_
 refine s_new (vs := [.int .i64 c, .int .i64 k, .int .i64 m]) (t := 23) hA hM rfl rfl rfl (fun g => .pointer (some ⟨g, 0, none⟩)) (does_box rfl rfl) (by decide) ?_
 intro g2 w3 hM a hA
 refine seq_do hA rfl rfl rfl (does_assign rfl) ?_
 intro a hA
 refine seq_end ?_
 refine hK1 _ _ ?_
 refine wp_seq_k (fun K4 hK4 => ?_)
 refine wp_draw (S := fun w1 => Mg w w1 (.obj g2 (.cells #[.int .i64 c, .int .i64 k, .int .i64 m] 23) :: [])) (by kernel_rfl) ?_
 replace hM := hM.drew
 refine any_tk hA 0 rfl rfl rfl rfl hP (hM.sub (.cons_cons _ (List.nil_sublist _))) (fun w1 hM => m_loadS hM CpI_isS_23 rfl 0 rfl (cs := [.int .i64 c, .int .i64 k, .int .i64 m]) rfl rfl) ?_
 intro a hA
 refine any_tk hA 2 rfl rfl rfl rfl hP (hM.sub (.cons_cons _ (List.nil_sublist _))) (fun w1 hM => does_move rfl) ?_
 intro a hA
 refine any_one (by kernel_rfl) (g_lit (e := BY) (sz := 1) (m := 0) (vs := []) hA hM 1 rfl rfl rfl rfl (does_buildSlice rfl (by kernel_rfl)) rfl rfl (.inr (noBld_cons (by simp) (noBld_quiet quietL_nil))) ?_)
 intro g5 w6 hM
 refine ⟨(hM.sub (.cons _ (.cons_cons _ (List.nil_sublist _)))), ?_⟩
 intro a hA
 refine any_one (by kernel_rfl) (g_append (e := BY) (sz := 1) (k := 0) (q := 0) (m := l.length) (xs := []) (news := Lib.byteCells l) (L' := fun v7 => (.row BY 1 (v7) (0 + l.length) (([] ++ Lib.byteCells l)) :: .obj g2 (.cells #[.int .i64 c, .int .i64 k, .int .i64 m] 23) :: [])) hA 3 rfl rfl rfl rfl (m_appendA Try.underlying24 (by kernel_rfl) hM 0 rfl rfl (hb.below hM.bel) rfl (by omega)) (fun _ => rfl) ?_)
 intro v7 w8 hM
 refine ⟨(hM.sub (.cons _ (.cons_cons _ (List.nil_sublist _)))), ?_⟩
 intro a hA
 refine any_one (by kernel_rfl) (op_call hA 4 rfl rfl rfl rfl (enters_func rfl rfl (fun w => by kernel_rfl)) (decode_row (c := c) (k := k) (m := m) hM 0 rfl) ?_)
 rintro _ w12 ⟨rfl, hb11⟩
 replace hM := hM.call hb11
 refine ⟨_, rfl, (hM.sub (.cons _ (.cons_cons _ (List.nil_sublist _)))), ?_⟩
 intro a hA
 refine any_tk hA 5 rfl rfl rfl rfl hP (hM.sub (.cons _ (.cons_cons _ (List.nil_sublist _)))) (fun w1 hM => does_move rfl) ?_
 intro a hA
 refine any_tk (v := .string ((⟨(decS c k m l).1.toArray⟩ : ByteArray))) hA 6 rfl rfl rfl rfl hP (hM.sub (.cons _ (.cons_cons _ (List.nil_sublist _)))) (fun w1 hM => does_extract (vs := [.string ((⟨(decS c k m l).1.toArray⟩ : ByteArray)), .int .i64 ((decS c k m l).2.1), .int .i64 ((decS c k m l).2.2)]) rfl rfl) ?_
 intro a hA
 refine any_tk (v := .int .i64 ((decS c k m l).2.1)) hA 7 rfl rfl rfl rfl hP (hM.sub (.cons _ (.cons_cons _ (List.nil_sublist _)))) (fun w1 hM => does_extract (vs := [.string ((⟨(decS c k m l).1.toArray⟩ : ByteArray)), .int .i64 ((decS c k m l).2.1), .int .i64 ((decS c k m l).2.2)]) rfl rfl) ?_
 intro a hA
 refine any_tk (v := .int .i64 ((decS c k m l).2.2)) hA 8 rfl rfl rfl rfl hP (hM.sub (.cons _ (.cons_cons _ (List.nil_sublist _)))) (fun w1 hM => does_extract (vs := [.string ((⟨(decS c k m l).1.toArray⟩ : ByteArray)), .int .i64 ((decS c k m l).2.1), .int .i64 ((decS c k m l).2.2)]) rfl rfl) ?_
 intro a hA
 refine any_tk hA 9 rfl rfl rfl rfl hP (hM.sub (.cons _ (.cons_cons _ (List.nil_sublist _)))) (fun w1 hM => does_assign rfl) ?_
 intro a hA
 refine any_tk hA 10 rfl rfl rfl rfl hP (hM.sub (.cons _ (.cons_cons _ (List.nil_sublist _)))) (fun w1 hM => does_assign rfl) ?_
 intro a hA
 refine any_tk hA 11 rfl rfl rfl rfl hP (hM.sub (.cons _ (.cons_cons _ (List.nil_sublist _)))) (fun w1 hM => does_assign rfl) ?_
 intro a hA
 refine any_end (by kernel_rfl) ?_
 refine hK4 _ _ ?_
 refine wp_seq_k (fun K13 hK13 => ?_)
 refine wp_region_lit ?_
 refine seq_do hA rfl rfl rfl (m_loadS hM CpI_isS_23 rfl 1 rfl (cs := [.int .i64 c, .int .i64 k, .int .i64 m]) rfl rfl) ?_
 intro a hA
 refine seq_do hA rfl rfl rfl (does_move rfl) ?_
 intro a hA
 refine seq_call hA rfl rfl rfl (enters_func rfl rfl (fun w => by kernel_rfl)) (rdecode_any (c := c) (k := k) (m := m) (hb.below hM.bel) rfl rfl) ?_
 rintro _ w15 ⟨rfl, hb14⟩
 replace hM := hM.call hb14
 refine ⟨_, rfl, ?_⟩
 intro a hA
 refine seq_do hA rfl rfl rfl (does_move rfl) ?_
 intro a hA
 refine seq_do (v := .string ((⟨(decS c k m l).1.toArray⟩ : ByteArray))) hA rfl rfl rfl (does_extract (vs := [.string ((⟨(decS c k m l).1.toArray⟩ : ByteArray)), .int .i64 ((decS c k m l).2.1), .int .i64 ((decS c k m l).2.2)]) rfl rfl) ?_
 intro a hA
 refine seq_do (v := .int .i64 ((decS c k m l).2.1)) hA rfl rfl rfl (does_extract (vs := [.string ((⟨(decS c k m l).1.toArray⟩ : ByteArray)), .int .i64 ((decS c k m l).2.1), .int .i64 ((decS c k m l).2.2)]) rfl rfl) ?_
 intro a hA
 refine seq_do (v := .int .i64 ((decS c k m l).2.2)) hA rfl rfl rfl (does_extract (vs := [.string ((⟨(decS c k m l).1.toArray⟩ : ByteArray)), .int .i64 ((decS c k m l).2.1), .int .i64 ((decS c k m l).2.2)]) rfl rfl) ?_
 intro a hA
 refine seq_do hA rfl rfl rfl (does_assign rfl) ?_
 intro a hA
 refine seq_do hA rfl rfl rfl (does_assign rfl) ?_
 intro a hA
 refine seq_do hA rfl rfl rfl (does_assign rfl) ?_
 intro a hA
 refine seq_end ?_
 refine hK13 _ _ ?_
 refine wp_seq_k (fun K16 hK16 => ?_)
 refine wp_draw (S := fun w1 => Mg w w1 (.obj g2 (.cells #[.int .i64 c, .int .i64 k, .int .i64 m] 23) :: [])) (by kernel_rfl) ?_
 replace hM := hM.drew
 refine any_one (by kernel_rfl) (op_call hA 0 rfl rfl rfl rfl (enters_func rfl rfl (fun w => by kernel_rfl)) (awake_any) ?_)
 rintro _ w18 ⟨rfl, hb17⟩
 replace hM := hM.call hb17
 refine ⟨_, rfl, (hM.sub (.cons _ (.cons_cons _ (List.nil_sublist _)))), ?_⟩
 intro a hA
 refine any_tk hA 1 rfl rfl rfl rfl hP (hM.sub (.cons _ (.cons_cons _ (List.nil_sublist _)))) (fun w1 hM => does_move rfl) ?_
 intro a hA
 refine any_tk hA 2 rfl rfl rfl rfl hP (hM.sub (.cons _ (.cons_cons _ (List.nil_sublist _)))) (fun w1 hM => m_loadS hM CpI_isS_23 rfl 0 rfl (cs := [.int .i64 c, .int .i64 k, .int .i64 m]) rfl rfl) ?_
 intro a hA
 refine any_tk hA 4 rfl rfl rfl rfl hP (hM.sub (.cons _ (.cons_cons _ (List.nil_sublist _)))) (fun w1 hM => m_loadS hM CpI_isS_23 rfl 0 rfl (cs := [.int .i64 c, .int .i64 k, .int .i64 m]) rfl rfl) ?_
 intro a hA
 refine any_one (by kernel_rfl) (op_call hA 3 rfl rfl rfl rfl (enters_func rfl rfl (fun w => by kernel_rfl)) (check_any) ?_)
 rintro _ w20 ⟨rfl, hb19⟩
 replace hM := hM.call hb19
 refine ⟨_, rfl, (hM.sub (.cons _ (.cons_cons _ (List.nil_sublist _)))), ?_⟩
 intro a hA
 refine any_one (by kernel_rfl) (op_call hA 5 rfl rfl rfl rfl (enters_func rfl rfl (fun w => by kernel_rfl)) (rcheck_any) ?_)
 rintro _ w22 ⟨rfl, hb21⟩
 replace hM := hM.call hb21
 refine ⟨_, rfl, (hM.sub (.cons _ (.cons_cons _ (List.nil_sublist _)))), ?_⟩
 intro a hA
 refine any_tk (v := .bool true) hA 6 rfl rfl rfl rfl hP (hM.sub (.cons _ (.cons_cons _ (List.nil_sublist _)))) (fun w1 hM => does_bin rfl rfl (fun w => (bin_eql w).trans (by rw [show ((checkS c k m == checkS c k m)) = true from beq_self_eq_true _]))) ?_
 intro a hA
 refine any_tk (v := .bool true) hA 7 rfl rfl rfl rfl hP (hM.sub (.cons _ (.cons_cons _ (List.nil_sublist _)))) (fun w1 hM => does_pick rfl rfl rfl rfl) ?_
 intro a hA
 refine any_tk hA 8 rfl rfl rfl rfl hP (hM.sub (.cons _ (.cons_cons _ (List.nil_sublist _)))) (fun w1 hM => does_move rfl) ?_
 intro a hA
 refine any_tk hA 9 rfl rfl rfl rfl hP (hM.sub (.cons _ (.cons_cons _ (List.nil_sublist _)))) (fun w1 hM => does_move rfl) ?_
 intro a hA
 refine any_tk hA 10 rfl rfl rfl rfl hP (hM.sub (.cons _ (.cons_cons _ (List.nil_sublist _)))) (fun w1 hM => does_move rfl) ?_
 intro a hA
 refine any_tk (v := .bool true) hA 11 rfl rfl rfl rfl hP (hM.sub (.cons _ (.cons_cons _ (List.nil_sublist _)))) (fun w1 hM => does_bin rfl rfl (bin_eqlT Try.underlying9 rfl)) ?_
 intro a hA
 refine any_tk (v := .bool true) hA 12 rfl rfl rfl rfl hP (hM.sub (.cons _ (.cons_cons _ (List.nil_sublist _)))) (fun w1 hM => does_pick rfl rfl rfl rfl) ?_
 intro a hA
 refine any_tk hA 13 rfl rfl rfl rfl hP (hM.sub (.cons _ (.cons_cons _ (List.nil_sublist _)))) (fun w1 hM => does_move rfl) ?_
 intro a hA
 refine any_tk hA 14 rfl rfl rfl rfl hP (hM.sub (.cons _ (.cons_cons _ (List.nil_sublist _)))) (fun w1 hM => does_move rfl) ?_
 intro a hA
 refine any_tk hA 15 rfl rfl rfl rfl hP (hM.sub (.cons _ (.cons_cons _ (List.nil_sublist _)))) (fun w1 hM => does_move rfl) ?_
 intro a hA
 refine any_tk (v := .bool true) hA 16 rfl rfl rfl rfl hP (hM.sub (.cons _ (.cons_cons _ (List.nil_sublist _)))) (fun w1 hM => does_bin rfl rfl (fun w => (bin_eql w).trans (by rw [show (((decS c k m l).2.1 == (decS c k m l).2.1)) = true from beq_self_eq_true _]))) ?_
 intro a hA
 refine any_tk (v := .bool true) hA 17 rfl rfl rfl rfl hP (hM.sub (.cons _ (.cons_cons _ (List.nil_sublist _)))) (fun w1 hM => does_pick rfl rfl rfl rfl) ?_
 intro a hA
 refine any_tk hA 18 rfl rfl rfl rfl hP (hM.sub (.cons _ (.cons_cons _ (List.nil_sublist _)))) (fun w1 hM => does_move rfl) ?_
 intro a hA
 refine any_tk hA 19 rfl rfl rfl rfl hP (hM.sub (.cons _ (.cons_cons _ (List.nil_sublist _)))) (fun w1 hM => does_move rfl) ?_
 intro a hA
 refine any_tk hA 20 rfl rfl rfl rfl hP (hM.sub (.cons _ (.cons_cons _ (List.nil_sublist _)))) (fun w1 hM => does_move rfl) ?_
 intro a hA
 refine any_tk (v := .bool true) hA 21 rfl rfl rfl rfl hP (hM.sub (.cons _ (.cons_cons _ (List.nil_sublist _)))) (fun w1 hM => does_bin rfl rfl (fun w => (bin_eql w).trans (by rw [show (((decS c k m l).2.2 == (decS c k m l).2.2)) = true from beq_self_eq_true _]))) ?_
 intro a hA
 refine any_tk (v := .bool true) hA 22 rfl rfl rfl rfl hP (hM.sub (.cons _ (.cons_cons _ (List.nil_sublist _)))) (fun w1 hM => does_pick rfl rfl rfl rfl) ?_
 intro a hA
 refine any_tk hA 23 rfl rfl rfl rfl hP (hM.sub (.cons _ (.cons_cons _ (List.nil_sublist _)))) (fun w1 hM => does_assign rfl) ?_
 intro a hA
 refine any_end (by kernel_rfl) ?_
 refine hK16 _ _ ?_
 refine wp_ret ?_
 refine hret _ _ ?_
 refine ends (v := .bool true) hA rfl (.cons (res_tmp rfl) .nil) rfl ?_
 exact ⟨rfl, hM.bel⟩
end Go.Proofs.Ytcjgjbaadmohbaa
