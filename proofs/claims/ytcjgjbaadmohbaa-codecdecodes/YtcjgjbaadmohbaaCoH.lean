/- Walks of what Encode writes. -/
import Derived.Test.YtcjgjbaadmohbaaCoG
import Derived.Test.YtcjgjbaadmohbaaMr
namespace Go.Proofs.Ytcjgjbaadmohbaa
open Go.RowKit
set_option linter.unusedVariables false
set_option linter.unusedSimpArgs false
set_option maxRecDepth 100000

theorem halves_any {w : World} {r : Int} (h0 : 65536 ≤ r) (h1 : r ≤ 1114111) : Calls Try.prog 87 #[.int .i32 r] w fun e w' => e = .returned (.tuple #[.int .i32 (hiH r), .int .i32 (loH r)]) ∧ Below w.heap.size w w' := by
 have hM : Mg w w ([]) := Mg.start w
 refine walk_of (l := [(0, .int .i32 r)]) Try.func87 rfl Try.ntmps87 rfl rfl ?_
 intro Q hret hnorm hP a hA
 refine wp_seq_k (fun K1 hK1 => ?_)
 refine wp_region_lit ?_
 refine seq_do hA rfl rfl rfl (does_assign rfl) ?_
 intro a hA
 refine seq_do hA rfl rfl rfl (does_assign rfl) ?_
 intro a hA
 refine seq_end ?_
 refine hK1 _ _ ?_
 refine wp_seq_k (fun K2 hK2 => ?_)
 refine wp_region_lit ?_
 refine seq_do hA rfl rfl rfl (does_move rfl) ?_
 intro a hA
 refine seq_do (v := .int .i32 (r - 65536)) hA rfl rfl rfl (does_bin rfl rfl (ar_sub (in_i32 (by omega) (by omega)))) ?_
 intro a hA
 refine seq_do hA rfl rfl rfl (does_assign rfl) ?_
 intro a hA
 refine seq_end ?_
 refine hK2 _ _ ?_
 refine wp_seq_k (fun K3 hK3 => ?_)
 refine wp_region_lit ?_
 refine seq_do hA rfl rfl rfl (does_move rfl) ?_
 intro a hA
 refine seq_do (v := .int .i32 ((r - 65536) / 1024)) hA rfl rfl rfl (does_bin rfl rfl (ar_shr (n := 10) rfl rfl rfl)) ?_
 intro a hA
 refine seq_do (v := .int .i32 (hiH r)) hA rfl rfl rfl (does_bin rfl rfl (ar_add (show IntKind.i32.wrap (55296 + (r - 65536) / 1024) = hiH r from in_i32 (by omega) (by omega)))) ?_
 intro a hA
 refine seq_do hA rfl rfl rfl (does_move rfl) ?_
 intro a hA
 refine seq_do (v := .int .i32 ((r - 65536) % 1024)) hA rfl rfl rfl (does_bin rfl rfl (ar_and (and_r (by omega) (by omega)))) ?_
 intro a hA
 refine seq_do (v := .int .i32 (loH r)) hA rfl rfl rfl (does_bin rfl rfl (ar_add (show IntKind.i32.wrap (56320 + (r - 65536) % 1024) = loH r from in_i32 (by omega) (by omega)))) ?_
 intro a hA
 refine seq_do hA rfl rfl rfl (does_assign rfl) ?_
 intro a hA
 refine seq_do hA rfl rfl rfl (does_assign rfl) ?_
 intro a hA
 refine seq_end ?_
 refine hK3 _ _ ?_
 refine wp_ret ?_
 refine hret _ _ ?_
 refine ends (v := .tuple #[.int .i32 (hiH r), .int .i32 (loH r)]) hA rfl (.cons (res_tmp rfl) (.cons (res_tmp rfl) .nil)) rfl ?_
 exact ⟨rfl, hM.bel⟩
theorem appended16_any {w0 w : World} {so : Option Addr} {cap : Nat} {xs : List UInt8} {r : Int} {X : List Ck} (hqX : ∀ d ∈ X, quietC d) (hl : xs.length ≤ 100000000) (h0 : 0 ≤ r) (h1 : r ≤ 1114111) (hM0 : Mg w0 w (.row BY 1 (.slice so xs.length cap) xs.length (Lib.byteCells xs) :: X)) : Calls Try.prog 73 #[.slice so xs.length cap, .int .i32 r] w (fun e w' => ∃ so' cap', e = .returned (.slice so' (xs ++ encC 3 r).length cap') ∧ Mg w0 w' (.row BY 1 (.slice so' (xs ++ encC 3 r).length cap') (xs ++ encC 3 r).length (Lib.byteCells (xs ++ encC 3 r)) :: X)) := by
 have k1 : hiH r = 55296 + (r - 65536) / 1024 := rfl
 have k2 : loH r = 56320 + (r - 65536) % 1024 := rfl
 have hM : Mg w0 w (.row BY 1 (.slice so xs.length cap) xs.length ((Lib.byteCells xs)) :: X) := hM0
 refine walk_of (l := [(0, .slice so xs.length cap), (1, .int .i32 r)]) Try.func73 rfl Try.ntmps73 rfl rfl ?_
 intro Q hret hnorm hP a hA
 refine wp_seq_k (fun K1 hK1 => ?_)
 refine wp_region_lit ?_
 refine seq_do hA rfl rfl rfl (does_assign rfl) ?_
 intro a hA
 refine seq_end ?_
 refine hK1 _ _ ?_
 refine wp_seq_k (fun K2 hK2 => ?_)
 refine wp_seq_k (fun K3 hK3 => ?_)
 refine wp_region_lit ?_
 refine seq_do hA rfl rfl rfl (does_move rfl) ?_
 intro a hA
 rcases Bool.eq_false_or_eq_true (decide (r < 65536)) with hb4 | hb4
 · have hb4' := of_decide_eq_true hb4
   refine seq_do (v := .bool true) hA rfl rfl rfl (does_bin rfl rfl (fun w => (bin_lss w).trans (by rw [hb4]))) ?_
   intro a hA
   refine seq_end ?_
   refine hK3 _ _ ?_
   refine wp_cond_true (hA.ev rfl) ?_
   refine wp_seq_k (fun K5 hK5 => ?_)
   refine wp_region_lit ?_
   refine seq_do hA rfl rfl rfl (does_move rfl) ?_
   intro a hA
   refine seq_do hA rfl rfl rfl (does_move rfl) ?_
   intro a hA
   refine seq_do (v := .int .i32 (r / 256)) hA rfl rfl rfl (does_bin rfl rfl (ar_shr (n := 8) rfl rfl rfl)) ?_
   intro a hA
   refine seq_do (v := .int .u8 (r / 256)) hA rfl rfl rfl (does_convert rfl (ar_conv Try.underlying21 Try.underlying5 (in_u8 (by omega) (by omega)))) ?_
   intro a hA
   refine seq_do hA rfl rfl rfl (does_move rfl) ?_
   intro a hA
   refine seq_do (v := .int .u8 (r % 256)) hA rfl rfl rfl (does_convert rfl (ar_conv Try.underlying21 Try.underlying5 (by rw [IntKind.wrap_u8]))) ?_
   intro a hA
   refine s_lit (vs := [.int .u8 (r / 256), .int .u8 (r % 256)]) hA hM rfl rfl rfl (does_buildSlice rfl (by kernel_rfl)) rfl rfl (noBld_cons (by simp) (noBld_quiet hqX)) ?_
   intro g6 w7 hM a hA
   refine s_append (k := 1) (q := xs.length) (m := 2) (xs := (Lib.byteCells xs)) (news := [.int .u8 (r / 256), .int .u8 (r % 256)]) (L' := fun v8 => (.row BY 1 (.slice (some ⟨g6, 0, none⟩) 2 2) 2 ([.int .u8 (r / 256), .int .u8 (r % 256)]) :: .row BY 1 (v8) (xs.length + 2) ((Lib.byteCells xs) ++ [.int .u8 (r / 256), .int .u8 (r % 256)]) :: X)) hA rfl rfl rfl (m_append Try.underlying24 (by kernel_rfl) hM 1 rfl rfl 0 rfl rfl rfl rfl (by omega)) (fun _ => rfl) ?_
   intro v8 w9 hM a hA
   refine seq_do hA rfl rfl rfl (does_assign rfl) ?_
   intro a hA
   refine seq_end ?_
   refine hK5 _ _ ?_
   refine wp_ret ?_
   refine hret _ _ ?_
   refine ends (v := v8) hA rfl (.cons (res_tmp rfl) .nil) rfl ?_
   obtain ⟨so2, cap2, rfl⟩ := owns_slice (hM.has 1 rfl)
   have h6 := hM.sub (.cons _ (.cons_cons _ (.refl _)))
   have h5 : encC 3 r = [b8 (r / 256), b8 (r % 256)] := by unfold encC; rw [if_neg (by decide), if_pos rfl, if_pos (by omega)]
   rw [h5]
   have h4 : (xs ++ [b8 (r / 256), b8 (r % 256)]).length = xs.length + 2 := by rw [List.length_append]; rfl
   rw [h4, Lib.byteCells_append]
   exact ⟨so2, cap2, rfl, by simpa [Lib.byteCells, b8_val (z := r / 256) (by omega) (by omega), b8_val (z := r % 256) (by omega) (by omega)] using h6⟩
 · have hb4' := of_decide_eq_false hb4
   refine seq_do (v := .bool false) hA rfl rfl rfl (does_bin rfl rfl (fun w => (bin_lss w).trans (by rw [hb4]))) ?_
   intro a hA
   refine seq_end ?_
   refine hK3 _ _ ?_
   refine wp_cond_false (hA.ev rfl) ?_
   refine wp_skip ?_
   refine hK2 _ _ ?_
   refine wp_seq_k (fun K10 hK10 => ?_)
   refine wp_region_lit ?_
   refine seq_do hA rfl rfl rfl (does_move rfl) ?_
   intro a hA
   refine seq_call hA rfl rfl rfl (enters_func rfl rfl (fun w => by kernel_rfl)) (halves_any (by omega) (by omega)) ?_
   rintro _ w12 ⟨rfl, hb11⟩
   replace hM := hM.call hb11
   refine ⟨_, rfl, ?_⟩
   intro a hA
   refine seq_do hA rfl rfl rfl (does_move rfl) ?_
   intro a hA
   refine seq_do (v := .int .i32 (hiH r)) hA rfl rfl rfl (does_extract (vs := [.int .i32 (hiH r), .int .i32 (loH r)]) rfl rfl) ?_
   intro a hA
   refine seq_do (v := .int .i32 (loH r)) hA rfl rfl rfl (does_extract (vs := [.int .i32 (hiH r), .int .i32 (loH r)]) rfl rfl) ?_
   intro a hA
   refine seq_do hA rfl rfl rfl (does_assign rfl) ?_
   intro a hA
   refine seq_do hA rfl rfl rfl (does_assign rfl) ?_
   intro a hA
   refine seq_end ?_
   refine hK10 _ _ ?_
   refine wp_seq_k (fun K13 hK13 => ?_)
   refine wp_region_lit ?_
   refine seq_do hA rfl rfl rfl (does_move rfl) ?_
   intro a hA
   refine seq_do hA rfl rfl rfl (does_move rfl) ?_
   intro a hA
   refine seq_do (v := .int .i32 ((hiH r) / 256)) hA rfl rfl rfl (does_bin rfl rfl (ar_shr (n := 8) rfl rfl rfl)) ?_
   intro a hA
   refine seq_do (v := .int .u8 ((hiH r) / 256)) hA rfl rfl rfl (does_convert rfl (ar_conv Try.underlying21 Try.underlying5 (in_u8 (by omega) (by omega)))) ?_
   intro a hA
   refine seq_do hA rfl rfl rfl (does_move rfl) ?_
   intro a hA
   refine seq_do (v := .int .u8 ((hiH r) % 256)) hA rfl rfl rfl (does_convert rfl (ar_conv Try.underlying21 Try.underlying5 (by rw [IntKind.wrap_u8]))) ?_
   intro a hA
   refine seq_do hA rfl rfl rfl (does_move rfl) ?_
   intro a hA
   refine seq_do (v := .int .i32 ((loH r) / 256)) hA rfl rfl rfl (does_bin rfl rfl (ar_shr (n := 8) rfl rfl rfl)) ?_
   intro a hA
   refine seq_do (v := .int .u8 ((loH r) / 256)) hA rfl rfl rfl (does_convert rfl (ar_conv Try.underlying21 Try.underlying5 (in_u8 (by omega) (by omega)))) ?_
   intro a hA
   refine seq_do hA rfl rfl rfl (does_move rfl) ?_
   intro a hA
   refine seq_do (v := .int .u8 ((loH r) % 256)) hA rfl rfl rfl (does_convert rfl (ar_conv Try.underlying21 Try.underlying5 (by rw [IntKind.wrap_u8]))) ?_
   intro a hA
   refine s_lit (vs := [.int .u8 ((hiH r) / 256), .int .u8 ((hiH r) % 256), .int .u8 ((loH r) / 256), .int .u8 ((loH r) % 256)]) hA hM rfl rfl rfl (does_buildSlice rfl (by kernel_rfl)) rfl rfl (noBld_cons (by simp) (noBld_quiet hqX)) ?_
   intro g14 w15 hM a hA
   refine s_append (k := 1) (q := xs.length) (m := 4) (xs := (Lib.byteCells xs)) (news := [.int .u8 ((hiH r) / 256), .int .u8 ((hiH r) % 256), .int .u8 ((loH r) / 256), .int .u8 ((loH r) % 256)]) (L' := fun v16 => (.row BY 1 (.slice (some ⟨g14, 0, none⟩) 4 4) 4 ([.int .u8 ((hiH r) / 256), .int .u8 ((hiH r) % 256), .int .u8 ((loH r) / 256), .int .u8 ((loH r) % 256)]) :: .row BY 1 (v16) (xs.length + 4) ((Lib.byteCells xs) ++ [.int .u8 ((hiH r) / 256), .int .u8 ((hiH r) % 256), .int .u8 ((loH r) / 256), .int .u8 ((loH r) % 256)]) :: X)) hA rfl rfl rfl (m_append Try.underlying24 (by kernel_rfl) hM 1 rfl rfl 0 rfl rfl rfl rfl (by omega)) (fun _ => rfl) ?_
   intro v16 w17 hM a hA
   refine seq_do hA rfl rfl rfl (does_assign rfl) ?_
   intro a hA
   refine seq_end ?_
   refine hK13 _ _ ?_
   refine wp_ret ?_
   refine hret _ _ ?_
   refine ends (v := v16) hA rfl (.cons (res_tmp rfl) .nil) rfl ?_
   obtain ⟨so2, cap2, rfl⟩ := owns_slice (hM.has 1 rfl)
   have h6 := hM.sub (.cons _ (.cons_cons _ (.refl _)))
   have h5 : encC 3 r = [b8 (hiH r / 256), b8 (hiH r % 256), b8 (loH r / 256), b8 (loH r % 256)] := by unfold encC; rw [if_neg (by decide), if_pos rfl, if_neg (by omega)]
   rw [h5]
   have h4 : (xs ++ [b8 (hiH r / 256), b8 (hiH r % 256), b8 (loH r / 256), b8 (loH r % 256)]).length = xs.length + 4 := by rw [List.length_append]; rfl
   rw [h4, Lib.byteCells_append]
   exact ⟨so2, cap2, rfl, by simpa [Lib.byteCells, b8_val (z := hiH r / 256) (by omega) (by omega), b8_val (z := hiH r % 256) (by omega) (by omega), b8_val (z := loH r / 256) (by omega) (by omega), b8_val (z := loH r % 256) (by omega) (by omega)] using h6⟩
theorem appended_any {w0 w : World} {so : Option Addr} {cap : Nat} {xs : List UInt8} {r : Int} {X : List Ck} (hqX : ∀ d ∈ X, quietC d) (hl : xs.length ≤ 100000000) {c : Int} (h0 : 0 ≤ r) (h1 : r ≤ 1114111) (h2 : c = 2 → r ≤ 255) (hM0 : Mg w0 w (.row BY 1 (.slice so xs.length cap) xs.length (Lib.byteCells xs) :: X)) : Calls Try.prog 47 #[.int .i64 c, .slice so xs.length cap, .int .i32 r] w (fun e w' => ∃ so' cap', e = .returned (.slice so' (xs ++ encC c r).length cap') ∧ Mg w0 w' (.row BY 1 (.slice so' (xs ++ encC c r).length cap') (xs ++ encC c r).length (Lib.byteCells (xs ++ encC c r)) :: X)) := by
 have hM : Mg w0 w (.row BY 1 (.slice so xs.length cap) xs.length ((Lib.byteCells xs)) :: X) := hM0
 refine walk_of (l := [(0, .int .i64 c), (1, .slice so xs.length cap), (2, .int .i32 r)]) Try.func47 rfl Try.ntmps47 rfl rfl ?_
 intro Q hret hnorm hP a hA
 refine wp_seq_k (fun K1 hK1 => ?_)
 refine wp_region_lit ?_
 refine seq_do hA rfl rfl rfl (does_assign rfl) ?_
 intro a hA
 refine seq_end ?_
 refine hK1 _ _ ?_
 refine wp_seq_k (fun K2 hK2 => ?_)
 refine wp_seq_k (fun K3 hK3 => ?_)
 refine wp_region_lit ?_
 refine seq_do hA rfl rfl rfl (does_move rfl) ?_
 intro a hA
 refine seq_end ?_
 refine hK3 _ _ ?_
 refine wp_block ?_
 refine wp_seq_k (fun K4 hK4 => ?_)
 refine wp_region_lit ?_
 rcases Bool.eq_false_or_eq_true ((c == 2)) with hb5 | hb5
 · have hb5' := eq_of_beq hb5
   refine seq_do (v := .bool true) hA rfl rfl rfl (does_bin rfl rfl (fun w => (bin_eql w).trans (by rw [hb5]))) ?_
   intro a hA
   refine seq_do hA rfl rfl rfl (does_assign rfl) ?_
   intro a hA
   refine seq_end ?_
   refine hK4 _ _ ?_
   refine wp_cond_true (hA.ev rfl) ?_
   refine wp_seq_k (fun K6 hK6 => ?_)
   refine wp_region_lit ?_
   refine seq_do hA rfl rfl rfl (does_move rfl) ?_
   intro a hA
   refine seq_do hA rfl rfl rfl (does_move rfl) ?_
   intro a hA
   refine seq_do (v := .int .u8 r) hA rfl rfl rfl (does_convert rfl (ar_conv Try.underlying21 Try.underlying5 (in_u8 (by omega) (by omega)))) ?_
   intro a hA
   refine s_lit (vs := [.int .u8 r]) hA hM rfl rfl rfl (does_buildSlice rfl (by kernel_rfl)) rfl rfl (noBld_cons (by simp) (noBld_quiet hqX)) ?_
   intro g7 w8 hM a hA
   refine s_append (k := 1) (q := xs.length) (m := 1) (xs := (Lib.byteCells xs)) (news := [.int .u8 r]) (L' := fun v9 => (.row BY 1 (.slice (some ⟨g7, 0, none⟩) 1 1) 1 ([.int .u8 r]) :: .row BY 1 (v9) (xs.length + 1) ((Lib.byteCells xs) ++ [.int .u8 r]) :: X)) hA rfl rfl rfl (m_append Try.underlying24 (by kernel_rfl) hM 1 rfl rfl 0 rfl rfl rfl rfl (by omega)) (fun _ => rfl) ?_
   intro v9 w10 hM a hA
   refine seq_do hA rfl rfl rfl (does_assign rfl) ?_
   intro a hA
   refine seq_end ?_
   refine hK6 _ _ ?_
   refine wp_ret ?_
   refine hret _ _ ?_
   refine ends (v := v9) hA rfl (.cons (res_tmp rfl) .nil) rfl ?_
   obtain ⟨so2, cap2, rfl⟩ := owns_slice (hM.has 1 rfl)
   have h6 := hM.sub (.cons _ (.cons_cons _ (.refl _)))
   have h5 : encC c r = [b8 r] := by unfold encC; rw [if_pos (by omega)]
   rw [h5]
   have h4 : (xs ++ [b8 r]).length = xs.length + 1 := by rw [List.length_append]; rfl
   rw [h4, Lib.byteCells_append]
   exact ⟨so2, cap2, rfl, by simpa [Lib.byteCells, b8_val (z := r) (by omega) (by omega)] using h6⟩
 · have hb5' := ne_of_beq_false hb5
   refine seq_do (v := .bool false) hA rfl rfl rfl (does_bin rfl rfl (fun w => (bin_eql w).trans (by rw [hb5]))) ?_
   intro a hA
   refine seq_do hA rfl rfl rfl (does_assign rfl) ?_
   intro a hA
   refine seq_end ?_
   refine hK4 _ _ ?_
   refine wp_cond_false (hA.ev rfl) ?_
   refine wp_seq_k (fun K11 hK11 => ?_)
   refine wp_region_lit ?_
   rcases Bool.eq_false_or_eq_true ((c == 3)) with hb12 | hb12
   · have hb12' := eq_of_beq hb12
     refine seq_do (v := .bool true) hA rfl rfl rfl (does_bin rfl rfl (fun w => (bin_eql w).trans (by rw [hb12]))) ?_
     intro a hA
     refine seq_do hA rfl rfl rfl (does_assign rfl) ?_
     intro a hA
     refine seq_end ?_
     refine hK11 _ _ ?_
     refine wp_cond_true (hA.ev rfl) ?_
     refine wp_seq_k (fun K13 hK13 => ?_)
     refine wp_region_lit ?_
     refine seq_do hA rfl rfl rfl (does_move rfl) ?_
     intro a hA
     refine seq_do hA rfl rfl rfl (does_move rfl) ?_
     intro a hA
     refine seq_call hA rfl rfl rfl (enters_func rfl rfl (fun w => by kernel_rfl)) (appended16_any hqX hl (by omega) (by omega) hM) ?_
     rintro _ w17 ⟨so14, cp15, rfl, hM16⟩
     replace hM : Mg w0 w17 (.row BY 1 (.slice so14 ((xs ++ encC 3 r).length) cp15) ((xs ++ encC 3 r).length) ((Lib.byteCells (xs ++ encC 3 r))) :: X) := hM16
     refine ⟨_, rfl, ?_⟩
     intro a hA
     refine seq_do hA rfl rfl rfl (does_assign rfl) ?_
     intro a hA
     refine seq_end ?_
     refine hK13 _ _ ?_
     refine wp_ret ?_
     refine hret _ _ ?_
     refine ends (v := .slice so14 ((xs ++ encC 3 r).length) cp15) hA rfl (.cons (res_tmp rfl) .nil) rfl ?_
     obtain rfl : c = 3 := by omega
     exact ⟨_, _, rfl, hM⟩
   · have hb12' := ne_of_beq_false hb12
     refine seq_do (v := .bool false) hA rfl rfl rfl (does_bin rfl rfl (fun w => (bin_eql w).trans (by rw [hb12]))) ?_
     intro a hA
     refine seq_do hA rfl rfl rfl (does_assign rfl) ?_
     intro a hA
     refine seq_end ?_
     refine hK11 _ _ ?_
     refine wp_cond_false (hA.ev rfl) ?_
     refine wp_skip ?_
     refine hK2 _ _ ?_
     refine wp_seq_k (fun K18 hK18 => ?_)
     refine wp_region_lit ?_
     refine seq_do hA rfl rfl rfl (does_move rfl) ?_
     intro a hA
     refine seq_do hA rfl rfl rfl (does_move rfl) ?_
     intro a hA
     refine seq_call hA rfl rfl rfl (enters_func rfl rfl (fun w => by kernel_rfl)) (Try.utf8_AppendRune_plain w0.heap.size (.slice so xs.length cap) xs.length (Lib.byteCells xs) r (by omega) (by omega) _ (hM.has 0 rfl) (by omega) hM.bel.size) ?_
     rintro _ w23 ⟨v19, rfl, ho20, ob21, hg22⟩
     replace hM : Mg w0 w23 (.row BY 1 (v19) (xs.length + (Lib.runeCells r).length) ((Lib.byteCells xs ++ Lib.runeCells r)) :: X) := (row_rune hM hqX ho20 hg22)
     refine ⟨_, rfl, ?_⟩
     intro a hA
     refine seq_do hA rfl rfl rfl (does_assign rfl) ?_
     intro a hA
     refine seq_end ?_
     refine hK18 _ _ ?_
     refine wp_ret ?_
     refine hret _ _ ?_
     refine ends (v := v19) hA rfl (.cons (res_tmp rfl) .nil) rfl ?_
     obtain ⟨so2, cap2, rfl⟩ := owns_slice (hM.has 0 rfl)
     have h5 : encC c r = Lib.encodeRune r := by unfold encC; rw [if_neg (by omega), if_neg (by omega)]
     rw [h5]
     have h4 : (xs ++ Lib.encodeRune r).length = xs.length + (Lib.runeCells r).length := by rw [List.length_append, ← Lib.byteCells_encodeRune, Lib.byteCells_length]
     rw [h4, Lib.byteCells_append, Lib.byteCells_encodeRune]
     exact ⟨so2, cap2, rfl, hM⟩
end Go.Proofs.Ytcjgjbaadmohbaa
