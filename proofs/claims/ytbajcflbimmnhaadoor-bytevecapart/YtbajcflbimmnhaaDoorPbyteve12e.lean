/- Walks of the bytes of a whole number. Walks of Put. What was put is got again. The walk of the law of numbers side by side. Transcoders that come in as arguments. Rows of bytes that come in as arguments; the first part of a row, and of a text. -/
import Derived.Test.YtbajcflbimmnhaaDoorPbyteve12d
import Derived.Test.YtbajcflbimmnhaaDoorPbyteve12a
import Derived.Test.YtbajcflbimmnhaaDoorPbyteve12b
import Derived.Test.YtbajcflbimmnhaaDoorProg
import Derived.WalkKit
import Derived.ProofKit
import Derived.OpenShut
import Derived.ChangeOld
import Derived.Lib.SmallJoins
import Derived.Deep.Strs
namespace Go.Proofs.YtbajcflbimmnhaaDoor.G
open Go.RowKit
set_option linter.unusedVariables false
set_option linter.unusedSimpArgs false
set_option maxRecDepth 100000
theorem ByP_is1_23 : Is1 Tryd.prog 23 := ⟨⟨_, Tryd.underlying23, rfl⟩, by kernel_rfl⟩
theorem ByP_is1_3 : Is1 Tryd.prog 3 := ⟨⟨_, Tryd.underlying3, rfl⟩, by kernel_rfl⟩
theorem ByP_is1_4 : Is1 Tryd.prog 4 := ⟨⟨_, Tryd.underlying4, rfl⟩, by kernel_rfl⟩
theorem ByP_is1_49 : Is1 Tryd.prog 49 := ⟨⟨_, Tryd.underlying49, rfl⟩, by kernel_rfl⟩
theorem ByP_fld_25_0 : FieldAt Tryd.prog 25 0 0 := ⟨_, _, Tryd.underlying25, rfl, rfl, by kernel_rfl⟩
theorem ByP_fld_25_1 : FieldAt Tryd.prog 25 1 1 := ⟨_, _, Tryd.underlying25, rfl, rfl, by kernel_rfl⟩
theorem ByP_fld_27_0 : FieldAt Tryd.prog 27 0 0 := ⟨_, _, Tryd.underlying27, rfl, rfl, by kernel_rfl⟩
theorem ByP_fld_44_0 : FieldAt Tryd.prog 44 0 0 := ⟨_, _, Tryd.underlying44, rfl, rfl, by kernel_rfl⟩
theorem ByP_fld_44_2 : FieldAt Tryd.prog 44 2 2 := ⟨_, _, Tryd.underlying44, rfl, rfl, by kernel_rfl⟩
theorem ByP_isS_27 : IsS Tryd.prog 27 6 := ⟨⟨_, Tryd.underlying27⟩, by kernel_rfl⟩
theorem ByP_isS_44 : IsS Tryd.prog 44 3 := ⟨⟨_, Tryd.underlying44⟩, by kernel_rfl⟩
theorem room_true {w : World} {n : Nat} {bg : Bool} (h1 : 1 ≤ n) (h64 : n ≤ 64) : Calls Tryd.prog 71 #[.agg #[.int .i64 ((n : Nat) : Int), .bool bg, .bool true]] w fun e w' => e = .returned (.int .i64 ((n * 8 - 1 : Nat) : Int)) ∧ Below w.heap.size w w' := by
 have hM : Mg w w ([]) := Mg.start w
 refine walk_of (l := [(0, .agg #[.int .i64 (((n : Nat) : Int)), .bool bg, .bool true])]) Tryd.func71 rfl Tryd.ntmps71 rfl rfl ?_
 intro Q hret hnorm hP a hA
 refine wp_seq_k (fun K1 hK1 => ?_)
 refine wp_region_lit ?_
 refine s_new (vs := [.int .i64 (((n : Nat) : Int)), .bool bg, .bool true]) (t := 44) hA hM rfl rfl rfl (fun g => .pointer (some ⟨g, 0, none⟩)) (does_box rfl rfl) (by decide) ?_
 intro g2 w3 hM a hA
 refine seq_do hA rfl rfl rfl (does_assign rfl) ?_
 intro a hA
 refine seq_end ?_
 refine hK1 _ _ ?_
 refine wp_seq_k (fun K4 hK4 => ?_)
 refine wp_seq_k (fun K5 hK5 => ?_)
 refine wp_region_lit ?_
 refine seq_do (v := .pointer (some ⟨g2, 2, none⟩)) hA rfl rfl rfl (does_field ByP_fld_44_2 rfl rfl) ?_
 intro a hA
 refine seq_do hA rfl rfl rfl (m_load1 hM ByP_is1_4 rfl 0 rfl rfl) ?_
 intro a hA
 refine seq_end ?_
 refine hK5 _ _ ?_
 refine wp_cond_true (hA.ev rfl) ?_
 refine wp_seq_k (fun K6 hK6 => ?_)
 refine wp_region_lit ?_
 refine seq_do (v := .pointer (some ⟨g2, 0, none⟩)) hA rfl rfl rfl (does_field ByP_fld_44_0 rfl rfl) ?_
 intro a hA
 refine seq_do hA rfl rfl rfl (m_load1 hM ByP_is1_3 rfl 0 rfl rfl) ?_
 intro a hA
 refine seq_do (v := .int .i64 (((n * 8 : Nat) : Int))) hA rfl rfl rfl (does_bin rfl rfl (ar_mul ((in_i64 (by omega) (by omega)).trans (by omega)))) ?_
 intro a hA
 refine seq_do (v := .int .i64 (((n * 8 - 1 : Nat) : Int))) hA rfl rfl rfl (does_bin rfl rfl (ar_sub ((in_i64 (by omega) (by omega)).trans (by omega)))) ?_
 intro a hA
 refine seq_do hA rfl rfl rfl (does_assign rfl) ?_
 intro a hA
 refine seq_end ?_
 refine hK6 _ _ ?_
 refine wp_ret ?_
 refine hret _ _ ?_
 refine ends (v := .int .i64 (((n * 8 - 1 : Nat) : Int))) hA rfl (.cons (res_tmp rfl) .nil) rfl ?_
 exact ⟨rfl, hM.bel⟩
theorem room_false {w : World} {n : Nat} {bg : Bool} (h1 : 1 ≤ n) (h64 : n ≤ 64) : Calls Tryd.prog 71 #[.agg #[.int .i64 ((n : Nat) : Int), .bool bg, .bool false]] w fun e w' => e = .returned (.int .i64 ((n * 8 : Nat) : Int)) ∧ Below w.heap.size w w' := by
 have hM : Mg w w ([]) := Mg.start w
 refine walk_of (l := [(0, .agg #[.int .i64 (((n : Nat) : Int)), .bool bg, .bool false])]) Tryd.func71 rfl Tryd.ntmps71 rfl rfl ?_
 intro Q hret hnorm hP a hA
 refine wp_seq_k (fun K1 hK1 => ?_)
 refine wp_region_lit ?_
 refine s_new (vs := [.int .i64 (((n : Nat) : Int)), .bool bg, .bool false]) (t := 44) hA hM rfl rfl rfl (fun g => .pointer (some ⟨g, 0, none⟩)) (does_box rfl rfl) (by decide) ?_
 intro g2 w3 hM a hA
 refine seq_do hA rfl rfl rfl (does_assign rfl) ?_
 intro a hA
 refine seq_end ?_
 refine hK1 _ _ ?_
 refine wp_seq_k (fun K4 hK4 => ?_)
 refine wp_seq_k (fun K5 hK5 => ?_)
 refine wp_region_lit ?_
 refine seq_do (v := .pointer (some ⟨g2, 2, none⟩)) hA rfl rfl rfl (does_field ByP_fld_44_2 rfl rfl) ?_
 intro a hA
 refine seq_do hA rfl rfl rfl (m_load1 hM ByP_is1_4 rfl 0 rfl rfl) ?_
 intro a hA
 refine seq_end ?_
 refine hK5 _ _ ?_
 refine wp_cond_false (hA.ev rfl) ?_
 refine wp_skip ?_
 refine hK4 _ _ ?_
 refine wp_seq_k (fun K6 hK6 => ?_)
 refine wp_region_lit ?_
 refine seq_do (v := .pointer (some ⟨g2, 0, none⟩)) hA rfl rfl rfl (does_field ByP_fld_44_0 rfl rfl) ?_
 intro a hA
 refine seq_do hA rfl rfl rfl (m_load1 hM ByP_is1_3 rfl 0 rfl rfl) ?_
 intro a hA
 refine seq_do (v := .int .i64 (((n * 8 : Nat) : Int))) hA rfl rfl rfl (does_bin rfl rfl (ar_mul ((in_i64 (by omega) (by omega)).trans (by omega)))) ?_
 intro a hA
 refine seq_do hA rfl rfl rfl (does_assign rfl) ?_
 intro a hA
 refine seq_end ?_
 refine hK6 _ _ ?_
 refine wp_ret ?_
 refine hret _ _ ?_
 refine ends (v := .int .i64 (((n * 8 : Nat) : Int))) hA rfl (.cons (res_tmp rfl) .nil) rfl ?_
 exact ⟨rfl, hM.bel⟩
theorem nm_below {w w' : World} {q : Q6} {o1 o2 o3 o4 : Option Addr} {c1 c2 c3 c4 : Nat} (h : Nm w q o1 c1 o2 c2 o3 c3 o4 c4) (hb : Below w.heap.size w w') : Nm w' q o1 c1 o2 c2 o3 c3 o4 c4 := nm_carry h (fun _ _ r => r.below hb)
theorem want_ok {b : Bool} {x : Nat} (hx : (words x).length ≤ 512) (hb : b.toNat ≤ x) : want1 (Q6.whole b x) = 0 := by
  unfold want1 wholeQ
  rw [soundQ_whole hx hb]
  simp [Q6.whole]
theorem wrap8 (z : Nat) : IntKind.u8.wrap ((z : Nat) : Int) = ((z % 256 : Nat) : Int) := by
  have e : IntKind.u8.wrap ((z : Nat) : Int) = ((z : Nat) : Int) % 256 := by
    unfold IntKind.wrap
    show (if (false : Bool) = true then _ else _) = _
    rfl
  rw [e]
  omega
theorem laid_true_true {w : World} {b : Bool} {x n : Nat} {o1 o2 o3 o4 : Option Addr} {c1 c2 c3 c4 : Nat} (ha : Nm w (Q6.whole b x) o1 c1 o2 c2 o3 c3 o4 c4) (hx : (words x).length ≤ 512) (hbx : b.toNat ≤ x) (h1 : 1 ≤ n) (h64 : n ≤ 64) {F ln : Nat} (hF : fld b (x - b.toNat) 0 (n * 8) = F) (hln : bl (x - b.toNat) = ln) (hroom : ln ≤ n * 8 - 1)  : Calls Tryd.prog 42 #[.agg #[.int .i64 ((n : Nat) : Int), .bool true, .bool true], numV (Q6.whole b x) o1 c1 o2 c2 o3 c3 o4 c4] w fun e w' => ∃ g, e = .returned (.tuple #[.slice (some ⟨g, 0, none⟩) n n, .int .i64 0]) ∧ Mg w w' [.row BY 1 (.slice (some ⟨g, 0, none⟩) n n) n (Lib.byteCells (lowB true (leB n F)))] := by
 have hw := want_ok hx hbx
 have hwl : (words F).length ≤ 512 := by rw [← hF]; exact fld_len (by omega)
 have hM : Mg w w ([]) := Mg.start w
 refine walk_of (l := [(0, .agg #[.int .i64 (((n : Nat) : Int)), .bool true, .bool true]), (1, .agg #[.bool b, .slice o1 ((words x).length) c1, .slice o2 1 c2, .bool false, .slice o3 0 c3, .slice o4 1 c4])]) Tryd.func42 rfl Tryd.ntmps42 rfl rfl ?_
 intro Q hret hnorm hP a hA
 refine wp_seq_k (fun K1 hK1 => ?_)
 refine wp_region_lit ?_
 refine s_new (vs := [.int .i64 (((n : Nat) : Int)), .bool true, .bool true]) (t := 44) hA hM rfl rfl rfl (fun g => .pointer (some ⟨g, 0, none⟩)) (does_box rfl rfl) (by decide) ?_
 intro g2 w3 hM a hA
 refine s_new (vs := [.bool b, .slice o1 ((words x).length) c1, .slice o2 1 c2, .bool false, .slice o3 0 c3, .slice o4 1 c4]) (t := 27) hA hM rfl rfl rfl (fun g => .pointer (some ⟨g, 0, none⟩)) (does_box rfl rfl) (by decide) ?_
 intro g4 w5 hM a hA
 refine seq_do hA rfl rfl rfl (does_assign rfl) ?_
 intro a hA
 refine seq_do hA rfl rfl rfl (does_assign rfl) ?_
 intro a hA
 refine seq_end ?_
 refine hK1 _ _ ?_
 refine wp_seq_k (fun K6 hK6 => ?_)
 refine wp_region_lit ?_
 refine seq_do hA rfl rfl rfl (m_loadS hM ByP_isS_27 rfl 0 rfl (cs := [.bool b, .slice o1 ((words x).length) c1, .slice o2 1 c2, .bool false, .slice o3 0 c3, .slice o4 1 c4]) rfl rfl) ?_
 intro a hA
 refine seq_call hA rfl rfl rfl (enters_func rfl rfl (fun w => by kernel_rfl)) ((by have h9 := lengthPW_any (w := w5) (nm_below ha hM.bel) (lenQ_whole hx) hw hx hbx; rw [lengthQ_whole hw, hln] at h9; exact h9)) ?_
 rintro _ w8 ⟨rfl, hb7⟩
 replace hM := hM.call hb7
 refine ⟨_, rfl, ?_⟩
 intro a hA
 refine seq_do hA rfl rfl rfl (does_move rfl) ?_
 intro a hA
 refine seq_do (v := .int .i64 (((ln : Nat) : Int))) hA rfl rfl rfl (does_extract (vs := [.int .i64 (((ln : Nat) : Int)), .int .i64 0]) rfl rfl) ?_
 intro a hA
 refine seq_do (v := .int .i64 0) hA rfl rfl rfl (does_extract (vs := [.int .i64 (((ln : Nat) : Int)), .int .i64 0]) rfl rfl) ?_
 intro a hA
 refine seq_do hA rfl rfl rfl (does_assign rfl) ?_
 intro a hA
 refine seq_do hA rfl rfl rfl (does_assign rfl) ?_
 intro a hA
 refine seq_end ?_
 refine hK6 _ _ ?_
 refine wp_seq_k (fun K9 hK9 => ?_)
 refine wp_seq_k (fun K10 hK10 => ?_)
 refine wp_region_lit ?_
 refine seq_do hA rfl rfl rfl (does_move rfl) ?_
 intro a hA
 refine seq_do (v := .bool false) hA rfl rfl rfl (does_bin rfl rfl (fun w => by kernel_rfl)) ?_
 intro a hA
 refine seq_end ?_
 refine hK10 _ _ ?_
 refine wp_cond_false (hA.ev rfl) ?_
 refine wp_skip ?_
 refine hK9 _ _ ?_
 refine wp_seq_k (fun K11 hK11 => ?_)
 refine wp_seq_k (fun K12 hK12 => ?_)
 refine wp_region_lit ?_
 refine seq_do (v := .pointer (some ⟨g4, 0, none⟩)) hA rfl rfl rfl (does_field ByP_fld_27_0 rfl rfl) ?_
 intro a hA
 refine seq_do (v := .pointer (some ⟨g4, 0, none⟩)) hA rfl rfl rfl (does_field ByP_fld_25_0 rfl rfl) ?_
 intro a hA
 refine seq_do hA rfl rfl rfl (m_load1 hM ByP_is1_4 rfl 0 rfl rfl) ?_
 intro a hA
 refine seq_do hA rfl rfl rfl (does_move rfl) ?_
 intro a hA
 rcases b with _ | _
 · refine seq_skip hA rfl rfl rfl ?_
   intro a hA
   refine seq_skip hA rfl rfl rfl ?_
   intro a hA
   refine seq_skip hA rfl rfl rfl ?_
   intro a hA
   refine seq_do (v := .bool false) hA rfl rfl rfl (does_pick rfl rfl rfl rfl) ?_
   intro a hA
   refine seq_do hA rfl rfl rfl (does_move rfl) ?_
   intro a hA
   refine seq_do hA rfl rfl rfl (does_move rfl) ?_
   intro a hA
   refine seq_do hA rfl rfl rfl (m_loadS hM ByP_isS_44 rfl 1 rfl (cs := [.int .i64 (((n : Nat) : Int)), .bool true, .bool true]) rfl rfl) ?_
   intro a hA
   refine seq_call hA rfl rfl rfl (enters_func rfl rfl (fun w => by kernel_rfl)) (room_true h1 h64) ?_
   rintro _ w14 ⟨rfl, hb13⟩
   replace hM := hM.call hb13
   refine ⟨_, rfl, ?_⟩
   intro a hA
   refine seq_do (v := .bool false) hA rfl rfl rfl (does_bin rfl rfl (fun w => (bin_gtr w).trans (by rw [show (decide (((n * 8 - 1 : Nat) : Int) < ((ln : Nat) : Int))) = false from (decide_eq_false (by omega))]))) ?_
   intro a hA
   refine seq_do (v := .bool false) hA rfl rfl rfl (does_pick rfl rfl rfl rfl) ?_
   intro a hA
   refine seq_end ?_
   refine hK12 _ _ ?_
   refine wp_cond_false (hA.ev rfl) ?_
   refine wp_skip ?_
   refine hK11 _ _ ?_
   refine wp_seq_k (fun K15 hK15 => ?_)
   refine wp_region_lit ?_
   refine seq_do hA rfl rfl rfl (m_loadS hM ByP_isS_27 rfl 0 rfl (cs := [.bool false, .slice o1 ((words x).length) c1, .slice o2 1 c2, .bool false, .slice o3 0 c3, .slice o4 1 c4]) rfl rfl) ?_
   intro a hA
   refine seq_do (v := .pointer (some ⟨g2, 0, none⟩)) hA rfl rfl rfl (does_field ByP_fld_44_0 rfl rfl) ?_
   intro a hA
   refine seq_do hA rfl rfl rfl (m_load1 hM ByP_is1_3 rfl 1 rfl rfl) ?_
   intro a hA
   refine seq_do (v := .int .i64 (((n * 8 : Nat) : Int))) hA rfl rfl rfl (does_bin rfl rfl (ar_mul ((in_i64 (by omega) (by omega)).trans (by omega)))) ?_
   intro a hA
   refine seq_call hA rfl rfl rfl (enters_func rfl rfl (fun w => by kernel_rfl)) ((show Calls Tryd.prog 72 _ _ (AnsN _ (Q6.whole false F, 0)) from (by have h9 := fieldPW_any (w := w14) (S := 0) (E := n * 8) (nm_below ha hM.bel) (lenQ_whole hx) (by omega) (by omega) hw hx hbx; rw [fieldQ_ok hw (by omega) (by omega), Nat.sub_zero, hF] at h9; exact h9))) ?_
   rintro _ w19 ⟨o18_1, o18_c1, o18_2, o18_c2, o18_3, o18_c3, o18_4, o18_c4, rfl, hn16, hb17⟩
   replace hM := hM.call hb17
   refine ⟨_, rfl, ?_⟩
   intro a hA
   refine seq_do hA rfl rfl rfl (does_move rfl) ?_
   intro a hA
   refine seq_do (v := .agg #[.bool false, .slice o18_1 ((words F).length) o18_c1, .slice o18_2 1 o18_c2, .bool false, .slice o18_3 0 o18_c3, .slice o18_4 1 o18_c4]) hA rfl rfl rfl (does_extract (vs := [.agg #[.bool false, .slice o18_1 ((words F).length) o18_c1, .slice o18_2 1 o18_c2, .bool false, .slice o18_3 0 o18_c3, .slice o18_4 1 o18_c4], .int .i64 0]) rfl rfl) ?_
   intro a hA
   refine seq_do (v := .int .i64 0) hA rfl rfl rfl (does_extract (vs := [.agg #[.bool false, .slice o18_1 ((words F).length) o18_c1, .slice o18_2 1 o18_c2, .bool false, .slice o18_3 0 o18_c3, .slice o18_4 1 o18_c4], .int .i64 0]) rfl rfl) ?_
   intro a hA
   refine s_newN (vs := [.bool false, .slice none 0 0, .slice none 0 0, .bool false, .slice none 0 0, .slice none 0 0]) (t := 27) hA hM rfl rfl rfl (fun g => .pointer (some ⟨g, 0, none⟩)) (does_alloc (z := .agg #[.bool false, .slice none 0 0, .slice none 0 0, .bool false, .slice none 0 0, .slice none 0 0]) (by kernel_rfl) rfl) (by decide) ?_
   intro g20 w21 hM hc22 a hA
   replace hn16 := nm_carry hn16 hc22
   refine s_storeN (us := [.bool false, .slice o18_1 ((words F).length) o18_c1, .slice o18_2 1 o18_c2, .bool false, .slice o18_3 0 o18_c3, .slice o18_4 1 o18_c4]) (L' := (.obj g20 (.cells #[.bool false, .slice o18_1 ((words F).length) o18_c1, .slice o18_2 1 o18_c2, .bool false, .slice o18_3 0 o18_c3, .slice o18_4 1 o18_c4] 27) :: .obj g4 (.cells #[.bool false, .slice o1 ((words x).length) c1, .slice o2 1 c2, .bool false, .slice o3 0 c3, .slice o4 1 c4] 27) :: .obj g2 (.cells #[.int .i64 (((n : Nat) : Int)), .bool true, .bool true] 44) :: [])) hA hM rfl rfl (m_store rfl rfl rfl (by kernel_rfl) hM 0 rfl rfl rfl) 0 rfl rfl rfl rfl rfl rfl ?_
   intro w23 hM hc24
   replace hn16 := nm_carry hn16 hc24
   refine seq_do hA rfl rfl rfl (does_assign rfl) ?_
   intro a hA
   refine seq_end ?_
   refine hK15 _ _ ?_
   refine wp_seq_k (fun K25 hK25 => ?_)
   refine wp_region_lit ?_
   refine seq_do (v := .pointer (some ⟨g2, 0, none⟩)) hA rfl rfl rfl (does_field ByP_fld_44_0 rfl rfl) ?_
   intro a hA
   refine seq_do hA rfl rfl rfl (m_load1 hM ByP_is1_3 rfl 2 rfl rfl) ?_
   intro a hA
   refine s_makeN (z := .int .u8 0) (sz := 1) (by_ := 1) (m := n) hA hM Tryd.underlying22 (by kernel_rfl) rfl rfl rfl rfl rfl rfl (by omega) (by omega) (.inr (noBld_cons (by simp) (noBld_cons (by simp) (noBld_cons (by simp) (noBld_quiet quietL_nil))))) ?_
   intro gx w26 hM hc27 a hA
   replace hn16 := nm_carry hn16 hc27
   rw [lbI_made n F] at hM
   refine seq_do hA rfl rfl rfl (does_assign rfl) ?_
   intro a hA
   refine seq_end ?_
   refine hK25 _ _ ?_
   refine wp_seq_k (fun K28 hK28 => ?_)
   refine wp_seq_k (fun K29 hK29 => ?_)
   refine wp_region_lit ?_
   refine seq_do (v := .pointer (some ⟨g2, 0, none⟩)) hA rfl rfl rfl (does_field ByP_fld_44_0 rfl rfl) ?_
   intro a hA
   refine seq_do hA rfl rfl rfl (m_load1 hM ByP_is1_3 rfl 3 rfl rfl) ?_
   intro a hA
   refine seq_do (v := .pointer (some ⟨g20, 0, none⟩)) hA rfl rfl rfl (does_field ByP_fld_27_0 rfl rfl) ?_
   intro a hA
   refine seq_do (v := .pointer (some ⟨g20, 1, none⟩)) hA rfl rfl rfl (does_field ByP_fld_25_1 rfl rfl) ?_
   intro a hA
   refine seq_do hA rfl rfl rfl (m_load1 hM ByP_is1_23 rfl 1 rfl rfl) ?_
   intro a hA
   refine seq_do (v := .int .i64 ((((words F).length : Nat) : Int))) hA rfl rfl rfl (does_len Tryd.underlying23 rfl) ?_
   intro a hA
   refine seq_do (v := .int .i64 ((((words F).length * 4 : Nat) : Int))) hA rfl rfl rfl (does_bin rfl rfl (ar_mul ((in_i64 (by omega) (by omega)).trans (by omega)))) ?_
   intro a hA
   refine seq_do (v := .int .i64 (((min n ((words F).length * 4) : Nat) : Int))) hA rfl rfl rfl (does_builtin rfl min_nat) ?_
   intro a hA
   refine seq_do hA rfl rfl rfl (does_move rfl) ?_
   intro a hA
   refine seq_end ?_
   refine hK29 _ _ ?_
   refine wp_block ?_
   refine wp_loop_n (fun m_ a w1 => ∃ (i : Nat), m_ = n - i ∧ (i ≤ min n ((words F).length * 4) ∧ Rd w1 o18_1 (words F)) ∧ Sl a 75 [(0, .agg #[.int .i64 (((n : Nat) : Int)), .bool true, .bool true]), (1, .agg #[.bool false, .slice o1 ((words x).length) c1, .slice o2 1 c2, .bool false, .slice o3 0 c3, .slice o4 1 c4]), (2, .pointer (some ⟨g2, 0, none⟩)), (3, .pointer (some ⟨g4, 0, none⟩)), (4, .slice none 0 0), (5, .int .i64 0), (6, .int .i64 (((ln : Nat) : Int))), (7, .int .i64 0), (8, .pointer (some ⟨g20, 0, none⟩)), (9, .int .i64 0), (10, .slice (some ⟨gx, 0, none⟩) n n), (12, .tuple #[.int .i64 (((ln : Nat) : Int)), .int .i64 0]), (13, .agg #[.bool false, .slice o1 ((words x).length) c1, .slice o2 1 c2, .bool false, .slice o3 0 c3, .slice o4 1 c4]), (14, .tuple #[.int .i64 (((ln : Nat) : Int)), .int .i64 0]), (15, .int .i64 (((ln : Nat) : Int))), (16, .int .i64 0), (17, .int .i64 0), (18, .bool false), (20, .pointer (some ⟨g4, 0, none⟩)), (21, .pointer (some ⟨g4, 0, none⟩)), (22, .bool false), (23, .bool false), (27, .bool false), (28, .bool false), (29, .int .i64 (((ln : Nat) : Int))), (30, .agg #[.int .i64 (((n : Nat) : Int)), .bool true, .bool true]), (31, .int .i64 (((n * 8 - 1 : Nat) : Int))), (32, .bool false), (33, .bool false), (34, .tuple #[.agg #[.bool false, .slice o18_1 ((words F).length) o18_c1, .slice o18_2 1 o18_c2, .bool false, .slice o18_3 0 o18_c3, .slice o18_4 1 o18_c4], .int .i64 0]), (35, .agg #[.bool false, .slice o1 ((words x).length) c1, .slice o2 1 c2, .bool false, .slice o3 0 c3, .slice o4 1 c4]), (36, .pointer (some ⟨g2, 0, none⟩)), (37, .int .i64 (((n : Nat) : Int))), (38, .int .i64 (((n * 8 : Nat) : Int))), (39, .tuple #[.agg #[.bool false, .slice o18_1 ((words F).length) o18_c1, .slice o18_2 1 o18_c2, .bool false, .slice o18_3 0 o18_c3, .slice o18_4 1 o18_c4], .int .i64 0]), (40, .agg #[.bool false, .slice o18_1 ((words F).length) o18_c1, .slice o18_2 1 o18_c2, .bool false, .slice o18_3 0 o18_c3, .slice o18_4 1 o18_c4]), (41, .int .i64 0), (42, .pointer (some ⟨g2, 0, none⟩)), (43, .int .i64 (((n : Nat) : Int))), (44, .slice (some ⟨gx, 0, none⟩) n n), (45, .pointer (some ⟨g2, 0, none⟩)), (46, .int .i64 (((n : Nat) : Int))), (47, .pointer (some ⟨g20, 0, none⟩)), (48, .pointer (some ⟨g20, 1, none⟩)), (49, .slice o18_1 ((words F).length) o18_c1), (50, .int .i64 ((((words F).length : Nat) : Int))), (51, .int .i64 ((((words F).length * 4 : Nat) : Int))), (52, .int .i64 (((min n ((words F).length * 4) : Nat) : Int))), (53, .int .i64 (((i : Nat) : Int)))] ∧ Mg w w1 (.row BY 1 (.slice (some ⟨gx, 0, none⟩) n n) n ((Lib.byteCells (lbI n F i))) :: .obj g20 (.cells #[.bool false, .slice o18_1 ((words F).length) o18_c1, .slice o18_2 1 o18_c2, .bool false, .slice o18_3 0 o18_c3, .slice o18_4 1 o18_c4] 27) :: .obj g4 (.cells #[.bool false, .slice o1 ((words x).length) c1, .slice o2 1 c2, .bool false, .slice o3 0 c3, .slice o4 1 c4] 27) :: .obj g2 (.cells #[.int .i64 (((n : Nat) : Int)), .bool true, .bool true] 44) :: [])) _ ⟨0, rfl, ⟨Nat.zero_le _, hn16.s1.rd⟩, hA.keep _ ⟨rfl, rfl, rfl, rfl, rfl, rfl, rfl, rfl, rfl, rfl, rfl, rfl, rfl, rfl, rfl, rfl, rfl, rfl, rfl, rfl, rfl, rfl, rfl, rfl, rfl, rfl, rfl, rfl, rfl, rfl, rfl, rfl, rfl, rfl, rfl, rfl, rfl, rfl, rfl, rfl, rfl, rfl, rfl, rfl, rfl, rfl, rfl, rfl, rfl, trivial⟩, hM⟩ ?_
   clear hM hA
   rintro m_ a w30 ⟨i, rfl, hinv32, hA, hM⟩ K31 hK31
   obtain ⟨hi9, hrdF⟩ := hinv32
   refine wp_seq_k (fun K33 hK33 => ?_)
   refine wp_region_lit ?_
   rcases Bool.eq_false_or_eq_true (decide (((i : Nat) : Int) < ((min n ((words F).length * 4) : Nat) : Int))) with hb34 | hb34
   · have hb34' := of_decide_eq_true hb34
     refine seq_do (v := .bool true) hA rfl rfl rfl (does_bin rfl rfl (fun w => (bin_lss w).trans (by rw [hb34]))) ?_
     intro a hA
     refine seq_end ?_
     refine hK33 _ _ ?_
     refine wp_seq_k (fun K35 hK35 => ?_)
     refine wp_cond_true (hA.ev rfl) ?_
     refine wp_skip ?_
     refine hK35 _ _ ?_
     refine wp_seq_k (fun K36 hK36 => ?_)
     refine wp_block ?_
     refine wp_seq_k (fun K37 hK37 => ?_)
     refine wp_region_lit ?_
     refine seq_do hA rfl rfl rfl (does_move rfl) ?_
     intro a hA
     refine seq_do hA rfl rfl rfl (does_assign rfl) ?_
     intro a hA
     refine seq_end ?_
     refine hK37 _ _ ?_
     refine wp_region_lit ?_
     refine seq_do hA rfl rfl rfl (does_move rfl) ?_
     intro a hA
     refine seq_do hA rfl rfl rfl (does_move rfl) ?_
     intro a hA
     refine seq_do (v := .pointer (some ⟨g20, 0, none⟩)) hA rfl rfl rfl (does_field ByP_fld_27_0 rfl rfl) ?_
     intro a hA
     refine seq_do (v := .pointer (some ⟨g20, 1, none⟩)) hA rfl rfl rfl (does_field ByP_fld_25_1 rfl rfl) ?_
     intro a hA
     refine seq_do hA rfl rfl rfl (m_load1 hM ByP_is1_23 rfl 1 rfl rfl) ?_
     intro a hA
     refine seq_do hA rfl rfl rfl (does_move rfl) ?_
     intro a hA
     refine seq_do (v := .int .i64 (((i / 4 : Nat) : Int))) hA rfl rfl rfl (does_bin rfl rfl (ar_quo (by decide) ((congrArg IntKind.i64.wrap (Int.tdiv_eq_ediv_of_nonneg (by omega))).trans ((in_i64 (by omega) (by omega)).trans (by omega))))) ?_
     intro a hA
     have hj9 : i / 4 < (words F).length := by omega
     obtain ⟨bx38, ox39, hx40⟩ := hrdF.addr hj9
     refine seq_do (v := .pointer (some ⟨bx38, ox39 + i / 4, none⟩)) hA rfl rfl rfl (does_indexRow (k := i / 4) Tryd.underlying23 (by kernel_rfl) rfl rfl rfl hx40 hj9) ?_
     intro a hA
     refine seq_do (v := .int .u32 ((((words F).getD (i / 4) 0 : Nat) : Int))) hA rfl rfl rfl (m_loadW (hrdF.at_ hx40 hj9) ByP_is1_49 rfl) ?_
     intro a hA
     refine seq_do hA rfl rfl rfl (does_move rfl) ?_
     intro a hA
     refine seq_do (v := .int .i64 (((i % 4 : Nat) : Int))) hA rfl rfl rfl (does_bin rfl rfl (ar_rem (by decide) ((Int.tmod_eq_emod_of_nonneg (by omega)).trans (by omega)))) ?_
     intro a hA
     refine seq_do (v := .int .i64 (((i % 4 * 8 : Nat) : Int))) hA rfl rfl rfl (does_bin rfl rfl (ar_mul ((in_i64 (by omega) (by omega)).trans (by omega)))) ?_
     intro a hA
     refine seq_do (v := .int .u32 ((((words F).getD (i / 4) 0 / 2 ^ (i % 4 * 8) : Nat) : Int))) hA rfl rfl rfl (does_bin rfl rfl (ar_shr (n := i % 4 * 8) rfl (Nat.ble_eq_true_of_le (show i % 4 * 8 ≤ 32 by omega)) (by rw [Int.natCast_ediv, Int.natCast_pow]; rfl))) ?_
     intro a hA
     refine seq_do (v := .int .u8 (((F / 256 ^ i % 256 : Nat) : Int))) hA rfl rfl rfl (does_convert rfl (ar_conv Tryd.underlying49 Tryd.underlying5 (by rw [← wd_byte]; exact wrap8 _))) ?_
     intro a hA
     refine seq_do (v := .pointer (some ⟨gx, (i) * 1, none⟩)) hA rfl rfl rfl (does_indexE Tryd.underlying22 (by kernel_rfl) rfl rfl rfl (show i < n by omega)) ?_
     intro a hA
     refine s_storeEN (c := .int .u8 (((F / 256 ^ i % 256 : Nat) : Int))) (L' := (.row BY 1 (.slice (some ⟨gx, 0, none⟩) n n) n ((over (Lib.byteCells (lbI n F i)) ((i) * 1) [.int .u8 (((F / 256 ^ i % 256 : Nat) : Int))])) :: .obj g20 (.cells #[.bool false, .slice o18_1 ((words F).length) o18_c1, .slice o18_2 1 o18_c2, .bool false, .slice o18_3 0 o18_c3, .slice o18_4 1 o18_c4] 27) :: .obj g4 (.cells #[.bool false, .slice o1 ((words x).length) c1, .slice o2 1 c2, .bool false, .slice o3 0 c3, .slice o4 1 c4] 27) :: .obj g2 (.cells #[.int .i64 (((n : Nat) : Int)), .bool true, .bool true] 44) :: [])) hA hM rfl rfl (m_storeE rfl rfl rfl (by kernel_rfl) hM 0 rfl (show (i) * 1 + 1 ≤ n * 1 by omega) rfl) 0 rfl (cells_get (l := lbI n F i) (i := i) (by rw [lbI_len]; omega)) rfl rfl ?_
     intro w41 hM hc42
     replace hrdF := hc42 _ _ hrdF
     replace hM : Mg w w41 (.row BY 1 (.slice (some ⟨gx, 0, none⟩) n n) n ((Lib.byteCells (lbI n F (i + 1)))) :: .obj g20 (.cells #[.bool false, .slice o18_1 ((words F).length) o18_c1, .slice o18_2 1 o18_c2, .bool false, .slice o18_3 0 o18_c3, .slice o18_4 1 o18_c4] 27) :: .obj g4 (.cells #[.bool false, .slice o1 ((words x).length) c1, .slice o2 1 c2, .bool false, .slice o3 0 c3, .slice o4 1 c4] 27) :: .obj g2 (.cells #[.int .i64 (((n : Nat) : Int)), .bool true, .bool true] 44) :: []) := by
       have h9 := hM
       rw [lbI_step (by omega)] at h9
       exact h9
     refine seq_end ?_
     refine hK36 _ _ ?_
     refine wp_region_lit ?_
     refine seq_do (v := .int .i64 (((i + 1 : Nat) : Int))) hA rfl rfl rfl (does_bin rfl rfl (ar_add ((in_i64 (by omega) (by omega)).trans (by omega)))) ?_
     intro a hA
     refine seq_do hA rfl rfl rfl (does_move rfl) ?_
     intro a hA
     refine seq_end ?_
     refine hK31 _ _ _ (by omega) ⟨i + 1, rfl, ⟨by omega, hrdF⟩, hA.keep _ ⟨rfl, rfl, rfl, rfl, rfl, rfl, rfl, rfl, rfl, rfl, rfl, rfl, rfl, rfl, rfl, rfl, rfl, rfl, rfl, rfl, rfl, rfl, rfl, rfl, rfl, rfl, rfl, rfl, rfl, rfl, rfl, rfl, rfl, rfl, rfl, rfl, rfl, rfl, rfl, rfl, rfl, rfl, rfl, rfl, rfl, rfl, rfl, rfl, rfl, trivial⟩, hM⟩
   · have hb34' := of_decide_eq_false hb34
     refine seq_do (v := .bool false) hA rfl rfl rfl (does_bin rfl rfl (fun w => (bin_lss w).trans (by rw [hb34]))) ?_
     intro a hA
     refine seq_end ?_
     refine hK33 _ _ ?_
     refine wp_seq_k (fun K43 hK43 => ?_)
     refine wp_cond_false (hA.ev rfl) ?_
     refine wp_exit ?_
     refine hK28 _ _ ?_
     refine wp_seq_k (fun K44 hK44 => ?_)
     refine wp_region_lit ?_
     refine seq_do hA rfl rfl rfl (m_loadS hM ByP_isS_44 rfl 3 rfl (cs := [.int .i64 (((n : Nat) : Int)), .bool true, .bool true]) rfl rfl) ?_
     intro a hA
     refine seq_do hA rfl rfl rfl (does_move rfl) ?_
     intro a hA
     have hi8 : i = min n ((words F).length * 4) := by omega
     have hd8 := lbI_done hi8
     replace hM : Mg w w30 (.row BY 1 (.slice (some ⟨gx, 0, none⟩) n n) n ((Lib.byteCells (leB n F))) :: .obj g20 (.cells #[.bool false, .slice o18_1 ((words F).length) o18_c1, .slice o18_2 1 o18_c2, .bool false, .slice o18_3 0 o18_c3, .slice o18_4 1 o18_c4] 27) :: .obj g4 (.cells #[.bool false, .slice o1 ((words x).length) c1, .slice o2 1 c2, .bool false, .slice o3 0 c3, .slice o4 1 c4] 27) :: .obj g2 (.cells #[.int .i64 (((n : Nat) : Int)), .bool true, .bool true] 44) :: []) := by
       have h9 := hM
       rw [hd8] at h9
       exact h9
     refine seq_call hA rfl rfl rfl (enters_func rfl rfl (fun w => by kernel_rfl)) ((by have h9 := reordered_true (w := w30) (sg := true) (cp := n) (rb_row (bs := leB n F) hM 0 rfl).1 (by rw [leB_len]; omega); rw [leB_len] at h9; exact h9)) ?_
     rintro _ w47 ⟨g45, rfl, hM46⟩
     replace hM : Mg w w47 (.row BY 1 (.slice (some ⟨g45, 0, none⟩) n n) n ((Lib.byteCells (lowB true (leB n F)))) :: .row BY 1 (.slice (some ⟨gx, 0, none⟩) n n) n ((Lib.byteCells (leB n F))) :: .obj g20 (.cells #[.bool false, .slice o18_1 ((words F).length) o18_c1, .slice o18_2 1 o18_c2, .bool false, .slice o18_3 0 o18_c3, .slice o18_4 1 o18_c4] 27) :: .obj g4 (.cells #[.bool false, .slice o1 ((words x).length) c1, .slice o2 1 c2, .bool false, .slice o3 0 c3, .slice o4 1 c4] 27) :: .obj g2 (.cells #[.int .i64 (((n : Nat) : Int)), .bool true, .bool true] 44) :: []) := (hM.both hM46 (noBld_cons (by simp) (noBld_cons (by simp) (noBld_cons (by simp) (noBld_cons (by simp) (noBld_quiet quietL_nil))))) (noBld_cons (by simp) (noBld_quiet quietL_nil)))
     refine ⟨_, rfl, ?_⟩
     intro a hA
     refine seq_do hA rfl rfl rfl (does_assign rfl) ?_
     intro a hA
     refine seq_do hA rfl rfl rfl (does_assign rfl) ?_
     intro a hA
     refine seq_end ?_
     refine hK44 _ _ ?_
     refine wp_ret ?_
     refine hret _ _ ?_
     refine ends (v := .tuple #[.slice (some ⟨g45, 0, none⟩) n n, .int .i64 0]) hA rfl (.cons (res_tmp rfl) (.cons (res_tmp rfl) .nil)) rfl ?_
     exact ⟨g45, rfl, hM.sub (.cons_cons _ (.cons _ (.cons _ (.cons _ (.cons _ (.refl _))))))⟩
 · refine seq_do (v := .pointer (some ⟨g2, 2, none⟩)) hA rfl rfl rfl (does_field ByP_fld_44_2 rfl rfl) ?_
   intro a hA
   refine seq_do hA rfl rfl rfl (m_load1 hM ByP_is1_4 rfl 1 rfl rfl) ?_
   intro a hA
   refine seq_do (v := .bool false) hA rfl rfl rfl (does_un rfl un_not) ?_
   intro a hA
   refine seq_do (v := .bool false) hA rfl rfl rfl (does_pick rfl rfl rfl rfl) ?_
   intro a hA
   refine seq_do hA rfl rfl rfl (does_move rfl) ?_
   intro a hA
   refine seq_do hA rfl rfl rfl (does_move rfl) ?_
   intro a hA
   refine seq_do hA rfl rfl rfl (m_loadS hM ByP_isS_44 rfl 1 rfl (cs := [.int .i64 (((n : Nat) : Int)), .bool true, .bool true]) rfl rfl) ?_
   intro a hA
   refine seq_call hA rfl rfl rfl (enters_func rfl rfl (fun w => by kernel_rfl)) (room_true h1 h64) ?_
   rintro _ w49 ⟨rfl, hb48⟩
   replace hM := hM.call hb48
   refine ⟨_, rfl, ?_⟩
   intro a hA
   refine seq_do (v := .bool false) hA rfl rfl rfl (does_bin rfl rfl (fun w => (bin_gtr w).trans (by rw [show (decide (((n * 8 - 1 : Nat) : Int) < ((ln : Nat) : Int))) = false from (decide_eq_false (by omega))]))) ?_
   intro a hA
   refine seq_do (v := .bool false) hA rfl rfl rfl (does_pick rfl rfl rfl rfl) ?_
   intro a hA
   refine seq_end ?_
   refine hK12 _ _ ?_
   refine wp_cond_false (hA.ev rfl) ?_
   refine wp_skip ?_
   refine hK11 _ _ ?_
   refine wp_seq_k (fun K50 hK50 => ?_)
   refine wp_region_lit ?_
   refine seq_do hA rfl rfl rfl (m_loadS hM ByP_isS_27 rfl 0 rfl (cs := [.bool true, .slice o1 ((words x).length) c1, .slice o2 1 c2, .bool false, .slice o3 0 c3, .slice o4 1 c4]) rfl rfl) ?_
   intro a hA
   refine seq_do (v := .pointer (some ⟨g2, 0, none⟩)) hA rfl rfl rfl (does_field ByP_fld_44_0 rfl rfl) ?_
   intro a hA
   refine seq_do hA rfl rfl rfl (m_load1 hM ByP_is1_3 rfl 1 rfl rfl) ?_
   intro a hA
   refine seq_do (v := .int .i64 (((n * 8 : Nat) : Int))) hA rfl rfl rfl (does_bin rfl rfl (ar_mul ((in_i64 (by omega) (by omega)).trans (by omega)))) ?_
   intro a hA
   refine seq_call hA rfl rfl rfl (enters_func rfl rfl (fun w => by kernel_rfl)) ((show Calls Tryd.prog 72 _ _ (AnsN _ (Q6.whole false F, 0)) from (by have h9 := fieldPW_any (w := w49) (S := 0) (E := n * 8) (nm_below ha hM.bel) (lenQ_whole hx) (by omega) (by omega) hw hx hbx; rw [fieldQ_ok hw (by omega) (by omega), Nat.sub_zero, hF] at h9; exact h9))) ?_
   rintro _ w54 ⟨o53_1, o53_c1, o53_2, o53_c2, o53_3, o53_c3, o53_4, o53_c4, rfl, hn51, hb52⟩
   replace hM := hM.call hb52
   refine ⟨_, rfl, ?_⟩
   intro a hA
   refine seq_do hA rfl rfl rfl (does_move rfl) ?_
   intro a hA
   refine seq_do (v := .agg #[.bool false, .slice o53_1 ((words F).length) o53_c1, .slice o53_2 1 o53_c2, .bool false, .slice o53_3 0 o53_c3, .slice o53_4 1 o53_c4]) hA rfl rfl rfl (does_extract (vs := [.agg #[.bool false, .slice o53_1 ((words F).length) o53_c1, .slice o53_2 1 o53_c2, .bool false, .slice o53_3 0 o53_c3, .slice o53_4 1 o53_c4], .int .i64 0]) rfl rfl) ?_
   intro a hA
   refine seq_do (v := .int .i64 0) hA rfl rfl rfl (does_extract (vs := [.agg #[.bool false, .slice o53_1 ((words F).length) o53_c1, .slice o53_2 1 o53_c2, .bool false, .slice o53_3 0 o53_c3, .slice o53_4 1 o53_c4], .int .i64 0]) rfl rfl) ?_
   intro a hA
   refine s_newN (vs := [.bool false, .slice none 0 0, .slice none 0 0, .bool false, .slice none 0 0, .slice none 0 0]) (t := 27) hA hM rfl rfl rfl (fun g => .pointer (some ⟨g, 0, none⟩)) (does_alloc (z := .agg #[.bool false, .slice none 0 0, .slice none 0 0, .bool false, .slice none 0 0, .slice none 0 0]) (by kernel_rfl) rfl) (by decide) ?_
   intro g55 w56 hM hc57 a hA
   replace hn51 := nm_carry hn51 hc57
   refine s_storeN (us := [.bool false, .slice o53_1 ((words F).length) o53_c1, .slice o53_2 1 o53_c2, .bool false, .slice o53_3 0 o53_c3, .slice o53_4 1 o53_c4]) (L' := (.obj g55 (.cells #[.bool false, .slice o53_1 ((words F).length) o53_c1, .slice o53_2 1 o53_c2, .bool false, .slice o53_3 0 o53_c3, .slice o53_4 1 o53_c4] 27) :: .obj g4 (.cells #[.bool true, .slice o1 ((words x).length) c1, .slice o2 1 c2, .bool false, .slice o3 0 c3, .slice o4 1 c4] 27) :: .obj g2 (.cells #[.int .i64 (((n : Nat) : Int)), .bool true, .bool true] 44) :: [])) hA hM rfl rfl (m_store rfl rfl rfl (by kernel_rfl) hM 0 rfl rfl rfl) 0 rfl rfl rfl rfl rfl rfl ?_
   intro w58 hM hc59
   replace hn51 := nm_carry hn51 hc59
   refine seq_do hA rfl rfl rfl (does_assign rfl) ?_
   intro a hA
   refine seq_end ?_
   refine hK50 _ _ ?_
   refine wp_seq_k (fun K60 hK60 => ?_)
   refine wp_region_lit ?_
   refine seq_do (v := .pointer (some ⟨g2, 0, none⟩)) hA rfl rfl rfl (does_field ByP_fld_44_0 rfl rfl) ?_
   intro a hA
   refine seq_do hA rfl rfl rfl (m_load1 hM ByP_is1_3 rfl 2 rfl rfl) ?_
   intro a hA
   refine s_makeN (z := .int .u8 0) (sz := 1) (by_ := 1) (m := n) hA hM Tryd.underlying22 (by kernel_rfl) rfl rfl rfl rfl rfl rfl (by omega) (by omega) (.inr (noBld_cons (by simp) (noBld_cons (by simp) (noBld_cons (by simp) (noBld_quiet quietL_nil))))) ?_
   intro gx w61 hM hc62 a hA
   replace hn51 := nm_carry hn51 hc62
   rw [lbI_made n F] at hM
   refine seq_do hA rfl rfl rfl (does_assign rfl) ?_
   intro a hA
   refine seq_end ?_
   refine hK60 _ _ ?_
   refine wp_seq_k (fun K63 hK63 => ?_)
   refine wp_seq_k (fun K64 hK64 => ?_)
   refine wp_region_lit ?_
   refine seq_do (v := .pointer (some ⟨g2, 0, none⟩)) hA rfl rfl rfl (does_field ByP_fld_44_0 rfl rfl) ?_
   intro a hA
   refine seq_do hA rfl rfl rfl (m_load1 hM ByP_is1_3 rfl 3 rfl rfl) ?_
   intro a hA
   refine seq_do (v := .pointer (some ⟨g55, 0, none⟩)) hA rfl rfl rfl (does_field ByP_fld_27_0 rfl rfl) ?_
   intro a hA
   refine seq_do (v := .pointer (some ⟨g55, 1, none⟩)) hA rfl rfl rfl (does_field ByP_fld_25_1 rfl rfl) ?_
   intro a hA
   refine seq_do hA rfl rfl rfl (m_load1 hM ByP_is1_23 rfl 1 rfl rfl) ?_
   intro a hA
   refine seq_do (v := .int .i64 ((((words F).length : Nat) : Int))) hA rfl rfl rfl (does_len Tryd.underlying23 rfl) ?_
   intro a hA
   refine seq_do (v := .int .i64 ((((words F).length * 4 : Nat) : Int))) hA rfl rfl rfl (does_bin rfl rfl (ar_mul ((in_i64 (by omega) (by omega)).trans (by omega)))) ?_
   intro a hA
   refine seq_do (v := .int .i64 (((min n ((words F).length * 4) : Nat) : Int))) hA rfl rfl rfl (does_builtin rfl min_nat) ?_
   intro a hA
   refine seq_do hA rfl rfl rfl (does_move rfl) ?_
   intro a hA
   refine seq_end ?_
   refine hK64 _ _ ?_
   refine wp_block ?_
   refine wp_loop_n (fun m_ a w1 => ∃ (i : Nat), m_ = n - i ∧ (i ≤ min n ((words F).length * 4) ∧ Rd w1 o53_1 (words F)) ∧ Sl a 75 [(0, .agg #[.int .i64 (((n : Nat) : Int)), .bool true, .bool true]), (1, .agg #[.bool true, .slice o1 ((words x).length) c1, .slice o2 1 c2, .bool false, .slice o3 0 c3, .slice o4 1 c4]), (2, .pointer (some ⟨g2, 0, none⟩)), (3, .pointer (some ⟨g4, 0, none⟩)), (4, .slice none 0 0), (5, .int .i64 0), (6, .int .i64 (((ln : Nat) : Int))), (7, .int .i64 0), (8, .pointer (some ⟨g55, 0, none⟩)), (9, .int .i64 0), (10, .slice (some ⟨gx, 0, none⟩) n n), (12, .tuple #[.int .i64 (((ln : Nat) : Int)), .int .i64 0]), (13, .agg #[.bool true, .slice o1 ((words x).length) c1, .slice o2 1 c2, .bool false, .slice o3 0 c3, .slice o4 1 c4]), (14, .tuple #[.int .i64 (((ln : Nat) : Int)), .int .i64 0]), (15, .int .i64 (((ln : Nat) : Int))), (16, .int .i64 0), (17, .int .i64 0), (18, .bool false), (20, .pointer (some ⟨g4, 0, none⟩)), (21, .pointer (some ⟨g4, 0, none⟩)), (22, .bool true), (23, .bool true), (24, .pointer (some ⟨g2, 2, none⟩)), (25, .bool true), (26, .bool false), (27, .bool false), (28, .bool false), (29, .int .i64 (((ln : Nat) : Int))), (30, .agg #[.int .i64 (((n : Nat) : Int)), .bool true, .bool true]), (31, .int .i64 (((n * 8 - 1 : Nat) : Int))), (32, .bool false), (33, .bool false), (34, .tuple #[.agg #[.bool false, .slice o53_1 ((words F).length) o53_c1, .slice o53_2 1 o53_c2, .bool false, .slice o53_3 0 o53_c3, .slice o53_4 1 o53_c4], .int .i64 0]), (35, .agg #[.bool true, .slice o1 ((words x).length) c1, .slice o2 1 c2, .bool false, .slice o3 0 c3, .slice o4 1 c4]), (36, .pointer (some ⟨g2, 0, none⟩)), (37, .int .i64 (((n : Nat) : Int))), (38, .int .i64 (((n * 8 : Nat) : Int))), (39, .tuple #[.agg #[.bool false, .slice o53_1 ((words F).length) o53_c1, .slice o53_2 1 o53_c2, .bool false, .slice o53_3 0 o53_c3, .slice o53_4 1 o53_c4], .int .i64 0]), (40, .agg #[.bool false, .slice o53_1 ((words F).length) o53_c1, .slice o53_2 1 o53_c2, .bool false, .slice o53_3 0 o53_c3, .slice o53_4 1 o53_c4]), (41, .int .i64 0), (42, .pointer (some ⟨g2, 0, none⟩)), (43, .int .i64 (((n : Nat) : Int))), (44, .slice (some ⟨gx, 0, none⟩) n n), (45, .pointer (some ⟨g2, 0, none⟩)), (46, .int .i64 (((n : Nat) : Int))), (47, .pointer (some ⟨g55, 0, none⟩)), (48, .pointer (some ⟨g55, 1, none⟩)), (49, .slice o53_1 ((words F).length) o53_c1), (50, .int .i64 ((((words F).length : Nat) : Int))), (51, .int .i64 ((((words F).length * 4 : Nat) : Int))), (52, .int .i64 (((min n ((words F).length * 4) : Nat) : Int))), (53, .int .i64 (((i : Nat) : Int)))] ∧ Mg w w1 (.row BY 1 (.slice (some ⟨gx, 0, none⟩) n n) n ((Lib.byteCells (lbI n F i))) :: .obj g55 (.cells #[.bool false, .slice o53_1 ((words F).length) o53_c1, .slice o53_2 1 o53_c2, .bool false, .slice o53_3 0 o53_c3, .slice o53_4 1 o53_c4] 27) :: .obj g4 (.cells #[.bool true, .slice o1 ((words x).length) c1, .slice o2 1 c2, .bool false, .slice o3 0 c3, .slice o4 1 c4] 27) :: .obj g2 (.cells #[.int .i64 (((n : Nat) : Int)), .bool true, .bool true] 44) :: [])) _ ⟨0, rfl, ⟨Nat.zero_le _, hn51.s1.rd⟩, hA.keep _ ⟨rfl, rfl, rfl, rfl, rfl, rfl, rfl, rfl, rfl, rfl, rfl, rfl, rfl, rfl, rfl, rfl, rfl, rfl, rfl, rfl, rfl, rfl, rfl, rfl, rfl, rfl, rfl, rfl, rfl, rfl, rfl, rfl, rfl, rfl, rfl, rfl, rfl, rfl, rfl, rfl, rfl, rfl, rfl, rfl, rfl, rfl, rfl, rfl, rfl, rfl, rfl, rfl, trivial⟩, hM⟩ ?_
   clear hM hA
   rintro m_ a w65 ⟨i, rfl, hinv67, hA, hM⟩ K66 hK66
   obtain ⟨hi9, hrdF⟩ := hinv67
   refine wp_seq_k (fun K68 hK68 => ?_)
   refine wp_region_lit ?_
   rcases Bool.eq_false_or_eq_true (decide (((i : Nat) : Int) < ((min n ((words F).length * 4) : Nat) : Int))) with hb69 | hb69
   · have hb69' := of_decide_eq_true hb69
     refine seq_do (v := .bool true) hA rfl rfl rfl (does_bin rfl rfl (fun w => (bin_lss w).trans (by rw [hb69]))) ?_
     intro a hA
     refine seq_end ?_
     refine hK68 _ _ ?_
     refine wp_seq_k (fun K70 hK70 => ?_)
     refine wp_cond_true (hA.ev rfl) ?_
     refine wp_skip ?_
     refine hK70 _ _ ?_
     refine wp_seq_k (fun K71 hK71 => ?_)
     refine wp_block ?_
     refine wp_seq_k (fun K72 hK72 => ?_)
     refine wp_region_lit ?_
     refine seq_do hA rfl rfl rfl (does_move rfl) ?_
     intro a hA
     refine seq_do hA rfl rfl rfl (does_assign rfl) ?_
     intro a hA
     refine seq_end ?_
     refine hK72 _ _ ?_
     refine wp_region_lit ?_
     refine seq_do hA rfl rfl rfl (does_move rfl) ?_
     intro a hA
     refine seq_do hA rfl rfl rfl (does_move rfl) ?_
     intro a hA
     refine seq_do (v := .pointer (some ⟨g55, 0, none⟩)) hA rfl rfl rfl (does_field ByP_fld_27_0 rfl rfl) ?_
     intro a hA
     refine seq_do (v := .pointer (some ⟨g55, 1, none⟩)) hA rfl rfl rfl (does_field ByP_fld_25_1 rfl rfl) ?_
     intro a hA
     refine seq_do hA rfl rfl rfl (m_load1 hM ByP_is1_23 rfl 1 rfl rfl) ?_
     intro a hA
     refine seq_do hA rfl rfl rfl (does_move rfl) ?_
     intro a hA
     refine seq_do (v := .int .i64 (((i / 4 : Nat) : Int))) hA rfl rfl rfl (does_bin rfl rfl (ar_quo (by decide) ((congrArg IntKind.i64.wrap (Int.tdiv_eq_ediv_of_nonneg (by omega))).trans ((in_i64 (by omega) (by omega)).trans (by omega))))) ?_
     intro a hA
     have hj9 : i / 4 < (words F).length := by omega
     obtain ⟨bx73, ox74, hx75⟩ := hrdF.addr hj9
     refine seq_do (v := .pointer (some ⟨bx73, ox74 + i / 4, none⟩)) hA rfl rfl rfl (does_indexRow (k := i / 4) Tryd.underlying23 (by kernel_rfl) rfl rfl rfl hx75 hj9) ?_
     intro a hA
     refine seq_do (v := .int .u32 ((((words F).getD (i / 4) 0 : Nat) : Int))) hA rfl rfl rfl (m_loadW (hrdF.at_ hx75 hj9) ByP_is1_49 rfl) ?_
     intro a hA
     refine seq_do hA rfl rfl rfl (does_move rfl) ?_
     intro a hA
     refine seq_do (v := .int .i64 (((i % 4 : Nat) : Int))) hA rfl rfl rfl (does_bin rfl rfl (ar_rem (by decide) ((Int.tmod_eq_emod_of_nonneg (by omega)).trans (by omega)))) ?_
     intro a hA
     refine seq_do (v := .int .i64 (((i % 4 * 8 : Nat) : Int))) hA rfl rfl rfl (does_bin rfl rfl (ar_mul ((in_i64 (by omega) (by omega)).trans (by omega)))) ?_
     intro a hA
     refine seq_do (v := .int .u32 ((((words F).getD (i / 4) 0 / 2 ^ (i % 4 * 8) : Nat) : Int))) hA rfl rfl rfl (does_bin rfl rfl (ar_shr (n := i % 4 * 8) rfl (Nat.ble_eq_true_of_le (show i % 4 * 8 ≤ 32 by omega)) (by rw [Int.natCast_ediv, Int.natCast_pow]; rfl))) ?_
     intro a hA
     refine seq_do (v := .int .u8 (((F / 256 ^ i % 256 : Nat) : Int))) hA rfl rfl rfl (does_convert rfl (ar_conv Tryd.underlying49 Tryd.underlying5 (by rw [← wd_byte]; exact wrap8 _))) ?_
     intro a hA
     refine seq_do (v := .pointer (some ⟨gx, (i) * 1, none⟩)) hA rfl rfl rfl (does_indexE Tryd.underlying22 (by kernel_rfl) rfl rfl rfl (show i < n by omega)) ?_
     intro a hA
     refine s_storeEN (c := .int .u8 (((F / 256 ^ i % 256 : Nat) : Int))) (L' := (.row BY 1 (.slice (some ⟨gx, 0, none⟩) n n) n ((over (Lib.byteCells (lbI n F i)) ((i) * 1) [.int .u8 (((F / 256 ^ i % 256 : Nat) : Int))])) :: .obj g55 (.cells #[.bool false, .slice o53_1 ((words F).length) o53_c1, .slice o53_2 1 o53_c2, .bool false, .slice o53_3 0 o53_c3, .slice o53_4 1 o53_c4] 27) :: .obj g4 (.cells #[.bool true, .slice o1 ((words x).length) c1, .slice o2 1 c2, .bool false, .slice o3 0 c3, .slice o4 1 c4] 27) :: .obj g2 (.cells #[.int .i64 (((n : Nat) : Int)), .bool true, .bool true] 44) :: [])) hA hM rfl rfl (m_storeE rfl rfl rfl (by kernel_rfl) hM 0 rfl (show (i) * 1 + 1 ≤ n * 1 by omega) rfl) 0 rfl (cells_get (l := lbI n F i) (i := i) (by rw [lbI_len]; omega)) rfl rfl ?_
     intro w76 hM hc77
     replace hrdF := hc77 _ _ hrdF
     replace hM : Mg w w76 (.row BY 1 (.slice (some ⟨gx, 0, none⟩) n n) n ((Lib.byteCells (lbI n F (i + 1)))) :: .obj g55 (.cells #[.bool false, .slice o53_1 ((words F).length) o53_c1, .slice o53_2 1 o53_c2, .bool false, .slice o53_3 0 o53_c3, .slice o53_4 1 o53_c4] 27) :: .obj g4 (.cells #[.bool true, .slice o1 ((words x).length) c1, .slice o2 1 c2, .bool false, .slice o3 0 c3, .slice o4 1 c4] 27) :: .obj g2 (.cells #[.int .i64 (((n : Nat) : Int)), .bool true, .bool true] 44) :: []) := by
       have h9 := hM
       rw [lbI_step (by omega)] at h9
       exact h9
     refine seq_end ?_
     refine hK71 _ _ ?_
     refine wp_region_lit ?_
     refine seq_do (v := .int .i64 (((i + 1 : Nat) : Int))) hA rfl rfl rfl (does_bin rfl rfl (ar_add ((in_i64 (by omega) (by omega)).trans (by omega)))) ?_
     intro a hA
     refine seq_do hA rfl rfl rfl (does_move rfl) ?_
     intro a hA
     refine seq_end ?_
     refine hK66 _ _ _ (by omega) ⟨i + 1, rfl, ⟨by omega, hrdF⟩, hA.keep _ ⟨rfl, rfl, rfl, rfl, rfl, rfl, rfl, rfl, rfl, rfl, rfl, rfl, rfl, rfl, rfl, rfl, rfl, rfl, rfl, rfl, rfl, rfl, rfl, rfl, rfl, rfl, rfl, rfl, rfl, rfl, rfl, rfl, rfl, rfl, rfl, rfl, rfl, rfl, rfl, rfl, rfl, rfl, rfl, rfl, rfl, rfl, rfl, rfl, rfl, rfl, rfl, rfl, trivial⟩, hM⟩
   · have hb69' := of_decide_eq_false hb69
     refine seq_do (v := .bool false) hA rfl rfl rfl (does_bin rfl rfl (fun w => (bin_lss w).trans (by rw [hb69]))) ?_
     intro a hA
     refine seq_end ?_
     refine hK68 _ _ ?_
     refine wp_seq_k (fun K78 hK78 => ?_)
     refine wp_cond_false (hA.ev rfl) ?_
     refine wp_exit ?_
     refine hK63 _ _ ?_
     refine wp_seq_k (fun K79 hK79 => ?_)
     refine wp_region_lit ?_
     refine seq_do hA rfl rfl rfl (m_loadS hM ByP_isS_44 rfl 3 rfl (cs := [.int .i64 (((n : Nat) : Int)), .bool true, .bool true]) rfl rfl) ?_
     intro a hA
     refine seq_do hA rfl rfl rfl (does_move rfl) ?_
     intro a hA
     have hi8 : i = min n ((words F).length * 4) := by omega
     have hd8 := lbI_done hi8
     replace hM : Mg w w65 (.row BY 1 (.slice (some ⟨gx, 0, none⟩) n n) n ((Lib.byteCells (leB n F))) :: .obj g55 (.cells #[.bool false, .slice o53_1 ((words F).length) o53_c1, .slice o53_2 1 o53_c2, .bool false, .slice o53_3 0 o53_c3, .slice o53_4 1 o53_c4] 27) :: .obj g4 (.cells #[.bool true, .slice o1 ((words x).length) c1, .slice o2 1 c2, .bool false, .slice o3 0 c3, .slice o4 1 c4] 27) :: .obj g2 (.cells #[.int .i64 (((n : Nat) : Int)), .bool true, .bool true] 44) :: []) := by
       have h9 := hM
       rw [hd8] at h9
       exact h9
     refine seq_call hA rfl rfl rfl (enters_func rfl rfl (fun w => by kernel_rfl)) ((by have h9 := reordered_true (w := w65) (sg := true) (cp := n) (rb_row (bs := leB n F) hM 0 rfl).1 (by rw [leB_len]; omega); rw [leB_len] at h9; exact h9)) ?_
     rintro _ w82 ⟨g80, rfl, hM81⟩
     replace hM : Mg w w82 (.row BY 1 (.slice (some ⟨g80, 0, none⟩) n n) n ((Lib.byteCells (lowB true (leB n F)))) :: .row BY 1 (.slice (some ⟨gx, 0, none⟩) n n) n ((Lib.byteCells (leB n F))) :: .obj g55 (.cells #[.bool false, .slice o53_1 ((words F).length) o53_c1, .slice o53_2 1 o53_c2, .bool false, .slice o53_3 0 o53_c3, .slice o53_4 1 o53_c4] 27) :: .obj g4 (.cells #[.bool true, .slice o1 ((words x).length) c1, .slice o2 1 c2, .bool false, .slice o3 0 c3, .slice o4 1 c4] 27) :: .obj g2 (.cells #[.int .i64 (((n : Nat) : Int)), .bool true, .bool true] 44) :: []) := (hM.both hM81 (noBld_cons (by simp) (noBld_cons (by simp) (noBld_cons (by simp) (noBld_cons (by simp) (noBld_quiet quietL_nil))))) (noBld_cons (by simp) (noBld_quiet quietL_nil)))
     refine ⟨_, rfl, ?_⟩
     intro a hA
     refine seq_do hA rfl rfl rfl (does_assign rfl) ?_
     intro a hA
     refine seq_do hA rfl rfl rfl (does_assign rfl) ?_
     intro a hA
     refine seq_end ?_
     refine hK79 _ _ ?_
     refine wp_ret ?_
     refine hret _ _ ?_
     refine ends (v := .tuple #[.slice (some ⟨g80, 0, none⟩) n n, .int .i64 0]) hA rfl (.cons (res_tmp rfl) (.cons (res_tmp rfl) .nil)) rfl ?_
     exact ⟨g80, rfl, hM.sub (.cons_cons _ (.cons _ (.cons _ (.cons _ (.cons _ (.refl _))))))⟩
theorem laid_true_false {w : World} {b : Bool} {x n : Nat} {o1 o2 o3 o4 : Option Addr} {c1 c2 c3 c4 : Nat} (ha : Nm w (Q6.whole b x) o1 c1 o2 c2 o3 c3 o4 c4) (hx : (words x).length ≤ 512) (hbx : b.toNat ≤ x) (h1 : 1 ≤ n) (h64 : n ≤ 64) {F ln : Nat} (hF : fld b (x - b.toNat) 0 (n * 8) = F) (hln : bl (x - b.toNat) = ln) (hroom : ln ≤ n * 8) (hneg : b = false) : Calls Tryd.prog 42 #[.agg #[.int .i64 ((n : Nat) : Int), .bool true, .bool false], numV (Q6.whole b x) o1 c1 o2 c2 o3 c3 o4 c4] w fun e w' => ∃ g, e = .returned (.tuple #[.slice (some ⟨g, 0, none⟩) n n, .int .i64 0]) ∧ Mg w w' [.row BY 1 (.slice (some ⟨g, 0, none⟩) n n) n (Lib.byteCells (lowB true (leB n F)))] := by
 have hw := want_ok hx hbx
 subst hneg
 have hwl : (words F).length ≤ 512 := by rw [← hF]; exact fld_len (by omega)
 have hM : Mg w w ([]) := Mg.start w
 refine walk_of (l := [(0, .agg #[.int .i64 (((n : Nat) : Int)), .bool true, .bool false]), (1, .agg #[.bool false, .slice o1 ((words x).length) c1, .slice o2 1 c2, .bool false, .slice o3 0 c3, .slice o4 1 c4])]) Tryd.func42 rfl Tryd.ntmps42 rfl rfl ?_
 intro Q hret hnorm hP a hA
 refine wp_seq_k (fun K1 hK1 => ?_)
 refine wp_region_lit ?_
 refine s_new (vs := [.int .i64 (((n : Nat) : Int)), .bool true, .bool false]) (t := 44) hA hM rfl rfl rfl (fun g => .pointer (some ⟨g, 0, none⟩)) (does_box rfl rfl) (by decide) ?_
 intro g2 w3 hM a hA
 refine s_new (vs := [.bool false, .slice o1 ((words x).length) c1, .slice o2 1 c2, .bool false, .slice o3 0 c3, .slice o4 1 c4]) (t := 27) hA hM rfl rfl rfl (fun g => .pointer (some ⟨g, 0, none⟩)) (does_box rfl rfl) (by decide) ?_
 intro g4 w5 hM a hA
 refine seq_do hA rfl rfl rfl (does_assign rfl) ?_
 intro a hA
 refine seq_do hA rfl rfl rfl (does_assign rfl) ?_
 intro a hA
 refine seq_end ?_
 refine hK1 _ _ ?_
 refine wp_seq_k (fun K6 hK6 => ?_)
 refine wp_region_lit ?_
 refine seq_do hA rfl rfl rfl (m_loadS hM ByP_isS_27 rfl 0 rfl (cs := [.bool false, .slice o1 ((words x).length) c1, .slice o2 1 c2, .bool false, .slice o3 0 c3, .slice o4 1 c4]) rfl rfl) ?_
 intro a hA
 refine seq_call hA rfl rfl rfl (enters_func rfl rfl (fun w => by kernel_rfl)) ((by have h9 := lengthPW_any (w := w5) (nm_below ha hM.bel) (lenQ_whole hx) hw hx hbx; rw [lengthQ_whole hw, hln] at h9; exact h9)) ?_
 rintro _ w8 ⟨rfl, hb7⟩
 replace hM := hM.call hb7
 refine ⟨_, rfl, ?_⟩
 intro a hA
 refine seq_do hA rfl rfl rfl (does_move rfl) ?_
 intro a hA
 refine seq_do (v := .int .i64 (((ln : Nat) : Int))) hA rfl rfl rfl (does_extract (vs := [.int .i64 (((ln : Nat) : Int)), .int .i64 0]) rfl rfl) ?_
 intro a hA
 refine seq_do (v := .int .i64 0) hA rfl rfl rfl (does_extract (vs := [.int .i64 (((ln : Nat) : Int)), .int .i64 0]) rfl rfl) ?_
 intro a hA
 refine seq_do hA rfl rfl rfl (does_assign rfl) ?_
 intro a hA
 refine seq_do hA rfl rfl rfl (does_assign rfl) ?_
 intro a hA
 refine seq_end ?_
 refine hK6 _ _ ?_
 refine wp_seq_k (fun K9 hK9 => ?_)
 refine wp_seq_k (fun K10 hK10 => ?_)
 refine wp_region_lit ?_
 refine seq_do hA rfl rfl rfl (does_move rfl) ?_
 intro a hA
 refine seq_do (v := .bool false) hA rfl rfl rfl (does_bin rfl rfl (fun w => by kernel_rfl)) ?_
 intro a hA
 refine seq_end ?_
 refine hK10 _ _ ?_
 refine wp_cond_false (hA.ev rfl) ?_
 refine wp_skip ?_
 refine hK9 _ _ ?_
 refine wp_seq_k (fun K11 hK11 => ?_)
 refine wp_seq_k (fun K12 hK12 => ?_)
 refine wp_region_lit ?_
 refine seq_do (v := .pointer (some ⟨g4, 0, none⟩)) hA rfl rfl rfl (does_field ByP_fld_27_0 rfl rfl) ?_
 intro a hA
 refine seq_do (v := .pointer (some ⟨g4, 0, none⟩)) hA rfl rfl rfl (does_field ByP_fld_25_0 rfl rfl) ?_
 intro a hA
 refine seq_do hA rfl rfl rfl (m_load1 hM ByP_is1_4 rfl 0 rfl rfl) ?_
 intro a hA
 refine seq_do hA rfl rfl rfl (does_move rfl) ?_
 intro a hA
 refine seq_skip hA rfl rfl rfl ?_
 intro a hA
 refine seq_skip hA rfl rfl rfl ?_
 intro a hA
 refine seq_skip hA rfl rfl rfl ?_
 intro a hA
 refine seq_do (v := .bool false) hA rfl rfl rfl (does_pick rfl rfl rfl rfl) ?_
 intro a hA
 refine seq_do hA rfl rfl rfl (does_move rfl) ?_
 intro a hA
 refine seq_do hA rfl rfl rfl (does_move rfl) ?_
 intro a hA
 refine seq_do hA rfl rfl rfl (m_loadS hM ByP_isS_44 rfl 1 rfl (cs := [.int .i64 (((n : Nat) : Int)), .bool true, .bool false]) rfl rfl) ?_
 intro a hA
 refine seq_call hA rfl rfl rfl (enters_func rfl rfl (fun w => by kernel_rfl)) (room_false h1 h64) ?_
 rintro _ w14 ⟨rfl, hb13⟩
 replace hM := hM.call hb13
 refine ⟨_, rfl, ?_⟩
 intro a hA
 refine seq_do (v := .bool false) hA rfl rfl rfl (does_bin rfl rfl (fun w => (bin_gtr w).trans (by rw [show (decide (((n * 8 : Nat) : Int) < ((ln : Nat) : Int))) = false from (decide_eq_false (by omega))]))) ?_
 intro a hA
 refine seq_do (v := .bool false) hA rfl rfl rfl (does_pick rfl rfl rfl rfl) ?_
 intro a hA
 refine seq_end ?_
 refine hK12 _ _ ?_
 refine wp_cond_false (hA.ev rfl) ?_
 refine wp_skip ?_
 refine hK11 _ _ ?_
 refine wp_seq_k (fun K15 hK15 => ?_)
 refine wp_region_lit ?_
 refine seq_do hA rfl rfl rfl (m_loadS hM ByP_isS_27 rfl 0 rfl (cs := [.bool false, .slice o1 ((words x).length) c1, .slice o2 1 c2, .bool false, .slice o3 0 c3, .slice o4 1 c4]) rfl rfl) ?_
 intro a hA
 refine seq_do (v := .pointer (some ⟨g2, 0, none⟩)) hA rfl rfl rfl (does_field ByP_fld_44_0 rfl rfl) ?_
 intro a hA
 refine seq_do hA rfl rfl rfl (m_load1 hM ByP_is1_3 rfl 1 rfl rfl) ?_
 intro a hA
 refine seq_do (v := .int .i64 (((n * 8 : Nat) : Int))) hA rfl rfl rfl (does_bin rfl rfl (ar_mul ((in_i64 (by omega) (by omega)).trans (by omega)))) ?_
 intro a hA
 refine seq_call hA rfl rfl rfl (enters_func rfl rfl (fun w => by kernel_rfl)) ((show Calls Tryd.prog 72 _ _ (AnsN _ (Q6.whole false F, 0)) from (by have h9 := fieldPW_any (w := w14) (S := 0) (E := n * 8) (nm_below ha hM.bel) (lenQ_whole hx) (by omega) (by omega) hw hx hbx; rw [fieldQ_ok hw (by omega) (by omega), Nat.sub_zero, hF] at h9; exact h9))) ?_
 rintro _ w19 ⟨o18_1, o18_c1, o18_2, o18_c2, o18_3, o18_c3, o18_4, o18_c4, rfl, hn16, hb17⟩
 replace hM := hM.call hb17
 refine ⟨_, rfl, ?_⟩
 intro a hA
 refine seq_do hA rfl rfl rfl (does_move rfl) ?_
 intro a hA
 refine seq_do (v := .agg #[.bool false, .slice o18_1 ((words F).length) o18_c1, .slice o18_2 1 o18_c2, .bool false, .slice o18_3 0 o18_c3, .slice o18_4 1 o18_c4]) hA rfl rfl rfl (does_extract (vs := [.agg #[.bool false, .slice o18_1 ((words F).length) o18_c1, .slice o18_2 1 o18_c2, .bool false, .slice o18_3 0 o18_c3, .slice o18_4 1 o18_c4], .int .i64 0]) rfl rfl) ?_
 intro a hA
 refine seq_do (v := .int .i64 0) hA rfl rfl rfl (does_extract (vs := [.agg #[.bool false, .slice o18_1 ((words F).length) o18_c1, .slice o18_2 1 o18_c2, .bool false, .slice o18_3 0 o18_c3, .slice o18_4 1 o18_c4], .int .i64 0]) rfl rfl) ?_
 intro a hA
 refine s_newN (vs := [.bool false, .slice none 0 0, .slice none 0 0, .bool false, .slice none 0 0, .slice none 0 0]) (t := 27) hA hM rfl rfl rfl (fun g => .pointer (some ⟨g, 0, none⟩)) (does_alloc (z := .agg #[.bool false, .slice none 0 0, .slice none 0 0, .bool false, .slice none 0 0, .slice none 0 0]) (by kernel_rfl) rfl) (by decide) ?_
 intro g20 w21 hM hc22 a hA
 replace hn16 := nm_carry hn16 hc22
 refine s_storeN (us := [.bool false, .slice o18_1 ((words F).length) o18_c1, .slice o18_2 1 o18_c2, .bool false, .slice o18_3 0 o18_c3, .slice o18_4 1 o18_c4]) (L' := (.obj g20 (.cells #[.bool false, .slice o18_1 ((words F).length) o18_c1, .slice o18_2 1 o18_c2, .bool false, .slice o18_3 0 o18_c3, .slice o18_4 1 o18_c4] 27) :: .obj g4 (.cells #[.bool false, .slice o1 ((words x).length) c1, .slice o2 1 c2, .bool false, .slice o3 0 c3, .slice o4 1 c4] 27) :: .obj g2 (.cells #[.int .i64 (((n : Nat) : Int)), .bool true, .bool false] 44) :: [])) hA hM rfl rfl (m_store rfl rfl rfl (by kernel_rfl) hM 0 rfl rfl rfl) 0 rfl rfl rfl rfl rfl rfl ?_
 intro w23 hM hc24
 replace hn16 := nm_carry hn16 hc24
 refine seq_do hA rfl rfl rfl (does_assign rfl) ?_
 intro a hA
 refine seq_end ?_
 refine hK15 _ _ ?_
 refine wp_seq_k (fun K25 hK25 => ?_)
 refine wp_region_lit ?_
 refine seq_do (v := .pointer (some ⟨g2, 0, none⟩)) hA rfl rfl rfl (does_field ByP_fld_44_0 rfl rfl) ?_
 intro a hA
 refine seq_do hA rfl rfl rfl (m_load1 hM ByP_is1_3 rfl 2 rfl rfl) ?_
 intro a hA
 refine s_makeN (z := .int .u8 0) (sz := 1) (by_ := 1) (m := n) hA hM Tryd.underlying22 (by kernel_rfl) rfl rfl rfl rfl rfl rfl (by omega) (by omega) (.inr (noBld_cons (by simp) (noBld_cons (by simp) (noBld_cons (by simp) (noBld_quiet quietL_nil))))) ?_
 intro gx w26 hM hc27 a hA
 replace hn16 := nm_carry hn16 hc27
 rw [lbI_made n F] at hM
 refine seq_do hA rfl rfl rfl (does_assign rfl) ?_
 intro a hA
 refine seq_end ?_
 refine hK25 _ _ ?_
 refine wp_seq_k (fun K28 hK28 => ?_)
 refine wp_seq_k (fun K29 hK29 => ?_)
 refine wp_region_lit ?_
 refine seq_do (v := .pointer (some ⟨g2, 0, none⟩)) hA rfl rfl rfl (does_field ByP_fld_44_0 rfl rfl) ?_
 intro a hA
 refine seq_do hA rfl rfl rfl (m_load1 hM ByP_is1_3 rfl 3 rfl rfl) ?_
 intro a hA
 refine seq_do (v := .pointer (some ⟨g20, 0, none⟩)) hA rfl rfl rfl (does_field ByP_fld_27_0 rfl rfl) ?_
 intro a hA
 refine seq_do (v := .pointer (some ⟨g20, 1, none⟩)) hA rfl rfl rfl (does_field ByP_fld_25_1 rfl rfl) ?_
 intro a hA
 refine seq_do hA rfl rfl rfl (m_load1 hM ByP_is1_23 rfl 1 rfl rfl) ?_
 intro a hA
 refine seq_do (v := .int .i64 ((((words F).length : Nat) : Int))) hA rfl rfl rfl (does_len Tryd.underlying23 rfl) ?_
 intro a hA
 refine seq_do (v := .int .i64 ((((words F).length * 4 : Nat) : Int))) hA rfl rfl rfl (does_bin rfl rfl (ar_mul ((in_i64 (by omega) (by omega)).trans (by omega)))) ?_
 intro a hA
 refine seq_do (v := .int .i64 (((min n ((words F).length * 4) : Nat) : Int))) hA rfl rfl rfl (does_builtin rfl min_nat) ?_
 intro a hA
 refine seq_do hA rfl rfl rfl (does_move rfl) ?_
 intro a hA
 refine seq_end ?_
 refine hK29 _ _ ?_
 refine wp_block ?_
 refine wp_loop_n (fun m_ a w1 => ∃ (i : Nat), m_ = n - i ∧ (i ≤ min n ((words F).length * 4) ∧ Rd w1 o18_1 (words F)) ∧ Sl a 75 [(0, .agg #[.int .i64 (((n : Nat) : Int)), .bool true, .bool false]), (1, .agg #[.bool false, .slice o1 ((words x).length) c1, .slice o2 1 c2, .bool false, .slice o3 0 c3, .slice o4 1 c4]), (2, .pointer (some ⟨g2, 0, none⟩)), (3, .pointer (some ⟨g4, 0, none⟩)), (4, .slice none 0 0), (5, .int .i64 0), (6, .int .i64 (((ln : Nat) : Int))), (7, .int .i64 0), (8, .pointer (some ⟨g20, 0, none⟩)), (9, .int .i64 0), (10, .slice (some ⟨gx, 0, none⟩) n n), (12, .tuple #[.int .i64 (((ln : Nat) : Int)), .int .i64 0]), (13, .agg #[.bool false, .slice o1 ((words x).length) c1, .slice o2 1 c2, .bool false, .slice o3 0 c3, .slice o4 1 c4]), (14, .tuple #[.int .i64 (((ln : Nat) : Int)), .int .i64 0]), (15, .int .i64 (((ln : Nat) : Int))), (16, .int .i64 0), (17, .int .i64 0), (18, .bool false), (20, .pointer (some ⟨g4, 0, none⟩)), (21, .pointer (some ⟨g4, 0, none⟩)), (22, .bool false), (23, .bool false), (27, .bool false), (28, .bool false), (29, .int .i64 (((ln : Nat) : Int))), (30, .agg #[.int .i64 (((n : Nat) : Int)), .bool true, .bool false]), (31, .int .i64 (((n * 8 : Nat) : Int))), (32, .bool false), (33, .bool false), (34, .tuple #[.agg #[.bool false, .slice o18_1 ((words F).length) o18_c1, .slice o18_2 1 o18_c2, .bool false, .slice o18_3 0 o18_c3, .slice o18_4 1 o18_c4], .int .i64 0]), (35, .agg #[.bool false, .slice o1 ((words x).length) c1, .slice o2 1 c2, .bool false, .slice o3 0 c3, .slice o4 1 c4]), (36, .pointer (some ⟨g2, 0, none⟩)), (37, .int .i64 (((n : Nat) : Int))), (38, .int .i64 (((n * 8 : Nat) : Int))), (39, .tuple #[.agg #[.bool false, .slice o18_1 ((words F).length) o18_c1, .slice o18_2 1 o18_c2, .bool false, .slice o18_3 0 o18_c3, .slice o18_4 1 o18_c4], .int .i64 0]), (40, .agg #[.bool false, .slice o18_1 ((words F).length) o18_c1, .slice o18_2 1 o18_c2, .bool false, .slice o18_3 0 o18_c3, .slice o18_4 1 o18_c4]), (41, .int .i64 0), (42, .pointer (some ⟨g2, 0, none⟩)), (43, .int .i64 (((n : Nat) : Int))), (44, .slice (some ⟨gx, 0, none⟩) n n), (45, .pointer (some ⟨g2, 0, none⟩)), (46, .int .i64 (((n : Nat) : Int))), (47, .pointer (some ⟨g20, 0, none⟩)), (48, .pointer (some ⟨g20, 1, none⟩)), (49, .slice o18_1 ((words F).length) o18_c1), (50, .int .i64 ((((words F).length : Nat) : Int))), (51, .int .i64 ((((words F).length * 4 : Nat) : Int))), (52, .int .i64 (((min n ((words F).length * 4) : Nat) : Int))), (53, .int .i64 (((i : Nat) : Int)))] ∧ Mg w w1 (.row BY 1 (.slice (some ⟨gx, 0, none⟩) n n) n ((Lib.byteCells (lbI n F i))) :: .obj g20 (.cells #[.bool false, .slice o18_1 ((words F).length) o18_c1, .slice o18_2 1 o18_c2, .bool false, .slice o18_3 0 o18_c3, .slice o18_4 1 o18_c4] 27) :: .obj g4 (.cells #[.bool false, .slice o1 ((words x).length) c1, .slice o2 1 c2, .bool false, .slice o3 0 c3, .slice o4 1 c4] 27) :: .obj g2 (.cells #[.int .i64 (((n : Nat) : Int)), .bool true, .bool false] 44) :: [])) _ ⟨0, rfl, ⟨Nat.zero_le _, hn16.s1.rd⟩, hA.keep _ ⟨rfl, rfl, rfl, rfl, rfl, rfl, rfl, rfl, rfl, rfl, rfl, rfl, rfl, rfl, rfl, rfl, rfl, rfl, rfl, rfl, rfl, rfl, rfl, rfl, rfl, rfl, rfl, rfl, rfl, rfl, rfl, rfl, rfl, rfl, rfl, rfl, rfl, rfl, rfl, rfl, rfl, rfl, rfl, rfl, rfl, rfl, rfl, rfl, rfl, trivial⟩, hM⟩ ?_
 clear hM hA
 rintro m_ a w30 ⟨i, rfl, hinv32, hA, hM⟩ K31 hK31
 obtain ⟨hi9, hrdF⟩ := hinv32
 refine wp_seq_k (fun K33 hK33 => ?_)
 refine wp_region_lit ?_
 rcases Bool.eq_false_or_eq_true (decide (((i : Nat) : Int) < ((min n ((words F).length * 4) : Nat) : Int))) with hb34 | hb34
 · have hb34' := of_decide_eq_true hb34
   refine seq_do (v := .bool true) hA rfl rfl rfl (does_bin rfl rfl (fun w => (bin_lss w).trans (by rw [hb34]))) ?_
   intro a hA
   refine seq_end ?_
   refine hK33 _ _ ?_
   refine wp_seq_k (fun K35 hK35 => ?_)
   refine wp_cond_true (hA.ev rfl) ?_
   refine wp_skip ?_
   refine hK35 _ _ ?_
   refine wp_seq_k (fun K36 hK36 => ?_)
   refine wp_block ?_
   refine wp_seq_k (fun K37 hK37 => ?_)
   refine wp_region_lit ?_
   refine seq_do hA rfl rfl rfl (does_move rfl) ?_
   intro a hA
   refine seq_do hA rfl rfl rfl (does_assign rfl) ?_
   intro a hA
   refine seq_end ?_
   refine hK37 _ _ ?_
   refine wp_region_lit ?_
   refine seq_do hA rfl rfl rfl (does_move rfl) ?_
   intro a hA
   refine seq_do hA rfl rfl rfl (does_move rfl) ?_
   intro a hA
   refine seq_do (v := .pointer (some ⟨g20, 0, none⟩)) hA rfl rfl rfl (does_field ByP_fld_27_0 rfl rfl) ?_
   intro a hA
   refine seq_do (v := .pointer (some ⟨g20, 1, none⟩)) hA rfl rfl rfl (does_field ByP_fld_25_1 rfl rfl) ?_
   intro a hA
   refine seq_do hA rfl rfl rfl (m_load1 hM ByP_is1_23 rfl 1 rfl rfl) ?_
   intro a hA
   refine seq_do hA rfl rfl rfl (does_move rfl) ?_
   intro a hA
   refine seq_do (v := .int .i64 (((i / 4 : Nat) : Int))) hA rfl rfl rfl (does_bin rfl rfl (ar_quo (by decide) ((congrArg IntKind.i64.wrap (Int.tdiv_eq_ediv_of_nonneg (by omega))).trans ((in_i64 (by omega) (by omega)).trans (by omega))))) ?_
   intro a hA
   have hj9 : i / 4 < (words F).length := by omega
   obtain ⟨bx38, ox39, hx40⟩ := hrdF.addr hj9
   refine seq_do (v := .pointer (some ⟨bx38, ox39 + i / 4, none⟩)) hA rfl rfl rfl (does_indexRow (k := i / 4) Tryd.underlying23 (by kernel_rfl) rfl rfl rfl hx40 hj9) ?_
   intro a hA
   refine seq_do (v := .int .u32 ((((words F).getD (i / 4) 0 : Nat) : Int))) hA rfl rfl rfl (m_loadW (hrdF.at_ hx40 hj9) ByP_is1_49 rfl) ?_
   intro a hA
   refine seq_do hA rfl rfl rfl (does_move rfl) ?_
   intro a hA
   refine seq_do (v := .int .i64 (((i % 4 : Nat) : Int))) hA rfl rfl rfl (does_bin rfl rfl (ar_rem (by decide) ((Int.tmod_eq_emod_of_nonneg (by omega)).trans (by omega)))) ?_
   intro a hA
   refine seq_do (v := .int .i64 (((i % 4 * 8 : Nat) : Int))) hA rfl rfl rfl (does_bin rfl rfl (ar_mul ((in_i64 (by omega) (by omega)).trans (by omega)))) ?_
   intro a hA
   refine seq_do (v := .int .u32 ((((words F).getD (i / 4) 0 / 2 ^ (i % 4 * 8) : Nat) : Int))) hA rfl rfl rfl (does_bin rfl rfl (ar_shr (n := i % 4 * 8) rfl (Nat.ble_eq_true_of_le (show i % 4 * 8 ≤ 32 by omega)) (by rw [Int.natCast_ediv, Int.natCast_pow]; rfl))) ?_
   intro a hA
   refine seq_do (v := .int .u8 (((F / 256 ^ i % 256 : Nat) : Int))) hA rfl rfl rfl (does_convert rfl (ar_conv Tryd.underlying49 Tryd.underlying5 (by rw [← wd_byte]; exact wrap8 _))) ?_
   intro a hA
   refine seq_do (v := .pointer (some ⟨gx, (i) * 1, none⟩)) hA rfl rfl rfl (does_indexE Tryd.underlying22 (by kernel_rfl) rfl rfl rfl (show i < n by omega)) ?_
   intro a hA
   refine s_storeEN (c := .int .u8 (((F / 256 ^ i % 256 : Nat) : Int))) (L' := (.row BY 1 (.slice (some ⟨gx, 0, none⟩) n n) n ((over (Lib.byteCells (lbI n F i)) ((i) * 1) [.int .u8 (((F / 256 ^ i % 256 : Nat) : Int))])) :: .obj g20 (.cells #[.bool false, .slice o18_1 ((words F).length) o18_c1, .slice o18_2 1 o18_c2, .bool false, .slice o18_3 0 o18_c3, .slice o18_4 1 o18_c4] 27) :: .obj g4 (.cells #[.bool false, .slice o1 ((words x).length) c1, .slice o2 1 c2, .bool false, .slice o3 0 c3, .slice o4 1 c4] 27) :: .obj g2 (.cells #[.int .i64 (((n : Nat) : Int)), .bool true, .bool false] 44) :: [])) hA hM rfl rfl (m_storeE rfl rfl rfl (by kernel_rfl) hM 0 rfl (show (i) * 1 + 1 ≤ n * 1 by omega) rfl) 0 rfl (cells_get (l := lbI n F i) (i := i) (by rw [lbI_len]; omega)) rfl rfl ?_
   intro w41 hM hc42
   replace hrdF := hc42 _ _ hrdF
   replace hM : Mg w w41 (.row BY 1 (.slice (some ⟨gx, 0, none⟩) n n) n ((Lib.byteCells (lbI n F (i + 1)))) :: .obj g20 (.cells #[.bool false, .slice o18_1 ((words F).length) o18_c1, .slice o18_2 1 o18_c2, .bool false, .slice o18_3 0 o18_c3, .slice o18_4 1 o18_c4] 27) :: .obj g4 (.cells #[.bool false, .slice o1 ((words x).length) c1, .slice o2 1 c2, .bool false, .slice o3 0 c3, .slice o4 1 c4] 27) :: .obj g2 (.cells #[.int .i64 (((n : Nat) : Int)), .bool true, .bool false] 44) :: []) := by
     have h9 := hM
     rw [lbI_step (by omega)] at h9
     exact h9
   refine seq_end ?_
   refine hK36 _ _ ?_
   refine wp_region_lit ?_
   refine seq_do (v := .int .i64 (((i + 1 : Nat) : Int))) hA rfl rfl rfl (does_bin rfl rfl (ar_add ((in_i64 (by omega) (by omega)).trans (by omega)))) ?_
   intro a hA
   refine seq_do hA rfl rfl rfl (does_move rfl) ?_
   intro a hA
   refine seq_end ?_
   refine hK31 _ _ _ (by omega) ⟨i + 1, rfl, ⟨by omega, hrdF⟩, hA.keep _ ⟨rfl, rfl, rfl, rfl, rfl, rfl, rfl, rfl, rfl, rfl, rfl, rfl, rfl, rfl, rfl, rfl, rfl, rfl, rfl, rfl, rfl, rfl, rfl, rfl, rfl, rfl, rfl, rfl, rfl, rfl, rfl, rfl, rfl, rfl, rfl, rfl, rfl, rfl, rfl, rfl, rfl, rfl, rfl, rfl, rfl, rfl, rfl, rfl, rfl, trivial⟩, hM⟩
 · have hb34' := of_decide_eq_false hb34
   refine seq_do (v := .bool false) hA rfl rfl rfl (does_bin rfl rfl (fun w => (bin_lss w).trans (by rw [hb34]))) ?_
   intro a hA
   refine seq_end ?_
   refine hK33 _ _ ?_
   refine wp_seq_k (fun K43 hK43 => ?_)
   refine wp_cond_false (hA.ev rfl) ?_
   refine wp_exit ?_
   refine hK28 _ _ ?_
   refine wp_seq_k (fun K44 hK44 => ?_)
   refine wp_region_lit ?_
   refine seq_do hA rfl rfl rfl (m_loadS hM ByP_isS_44 rfl 3 rfl (cs := [.int .i64 (((n : Nat) : Int)), .bool true, .bool false]) rfl rfl) ?_
   intro a hA
   refine seq_do hA rfl rfl rfl (does_move rfl) ?_
   intro a hA
   have hi8 : i = min n ((words F).length * 4) := by omega
   have hd8 := lbI_done hi8
   replace hM : Mg w w30 (.row BY 1 (.slice (some ⟨gx, 0, none⟩) n n) n ((Lib.byteCells (leB n F))) :: .obj g20 (.cells #[.bool false, .slice o18_1 ((words F).length) o18_c1, .slice o18_2 1 o18_c2, .bool false, .slice o18_3 0 o18_c3, .slice o18_4 1 o18_c4] 27) :: .obj g4 (.cells #[.bool false, .slice o1 ((words x).length) c1, .slice o2 1 c2, .bool false, .slice o3 0 c3, .slice o4 1 c4] 27) :: .obj g2 (.cells #[.int .i64 (((n : Nat) : Int)), .bool true, .bool false] 44) :: []) := by
     have h9 := hM
     rw [hd8] at h9
     exact h9
   refine seq_call hA rfl rfl rfl (enters_func rfl rfl (fun w => by kernel_rfl)) ((by have h9 := reordered_true (w := w30) (sg := false) (cp := n) (rb_row (bs := leB n F) hM 0 rfl).1 (by rw [leB_len]; omega); rw [leB_len] at h9; exact h9)) ?_
   rintro _ w47 ⟨g45, rfl, hM46⟩
   replace hM : Mg w w47 (.row BY 1 (.slice (some ⟨g45, 0, none⟩) n n) n ((Lib.byteCells (lowB true (leB n F)))) :: .row BY 1 (.slice (some ⟨gx, 0, none⟩) n n) n ((Lib.byteCells (leB n F))) :: .obj g20 (.cells #[.bool false, .slice o18_1 ((words F).length) o18_c1, .slice o18_2 1 o18_c2, .bool false, .slice o18_3 0 o18_c3, .slice o18_4 1 o18_c4] 27) :: .obj g4 (.cells #[.bool false, .slice o1 ((words x).length) c1, .slice o2 1 c2, .bool false, .slice o3 0 c3, .slice o4 1 c4] 27) :: .obj g2 (.cells #[.int .i64 (((n : Nat) : Int)), .bool true, .bool false] 44) :: []) := (hM.both hM46 (noBld_cons (by simp) (noBld_cons (by simp) (noBld_cons (by simp) (noBld_cons (by simp) (noBld_quiet quietL_nil))))) (noBld_cons (by simp) (noBld_quiet quietL_nil)))
   refine ⟨_, rfl, ?_⟩
   intro a hA
   refine seq_do hA rfl rfl rfl (does_assign rfl) ?_
   intro a hA
   refine seq_do hA rfl rfl rfl (does_assign rfl) ?_
   intro a hA
   refine seq_end ?_
   refine hK44 _ _ ?_
   refine wp_ret ?_
   refine hret _ _ ?_
   refine ends (v := .tuple #[.slice (some ⟨g45, 0, none⟩) n n, .int .i64 0]) hA rfl (.cons (res_tmp rfl) (.cons (res_tmp rfl) .nil)) rfl ?_
   exact ⟨g45, rfl, hM.sub (.cons_cons _ (.cons _ (.cons _ (.cons _ (.cons _ (.refl _))))))⟩
theorem laid_false_true {w : World} {b : Bool} {x n : Nat} {o1 o2 o3 o4 : Option Addr} {c1 c2 c3 c4 : Nat} (ha : Nm w (Q6.whole b x) o1 c1 o2 c2 o3 c3 o4 c4) (hx : (words x).length ≤ 512) (hbx : b.toNat ≤ x) (h1 : 1 ≤ n) (h64 : n ≤ 64) {F ln : Nat} (hF : fld b (x - b.toNat) 0 (n * 8) = F) (hln : bl (x - b.toNat) = ln) (hroom : ln ≤ n * 8 - 1)  : Calls Tryd.prog 42 #[.agg #[.int .i64 ((n : Nat) : Int), .bool false, .bool true], numV (Q6.whole b x) o1 c1 o2 c2 o3 c3 o4 c4] w fun e w' => ∃ g, e = .returned (.tuple #[.slice (some ⟨g, 0, none⟩) n n, .int .i64 0]) ∧ Mg w w' [.row BY 1 (.slice (some ⟨g, 0, none⟩) n n) n (Lib.byteCells (lowB false (leB n F)))] := by
 have hw := want_ok hx hbx
 have hwl : (words F).length ≤ 512 := by rw [← hF]; exact fld_len (by omega)
 have hM : Mg w w ([]) := Mg.start w
 refine walk_of (l := [(0, .agg #[.int .i64 (((n : Nat) : Int)), .bool false, .bool true]), (1, .agg #[.bool b, .slice o1 ((words x).length) c1, .slice o2 1 c2, .bool false, .slice o3 0 c3, .slice o4 1 c4])]) Tryd.func42 rfl Tryd.ntmps42 rfl rfl ?_
 intro Q hret hnorm hP a hA
 refine wp_seq_k (fun K1 hK1 => ?_)
 refine wp_region_lit ?_
 refine s_new (vs := [.int .i64 (((n : Nat) : Int)), .bool false, .bool true]) (t := 44) hA hM rfl rfl rfl (fun g => .pointer (some ⟨g, 0, none⟩)) (does_box rfl rfl) (by decide) ?_
 intro g2 w3 hM a hA
 refine s_new (vs := [.bool b, .slice o1 ((words x).length) c1, .slice o2 1 c2, .bool false, .slice o3 0 c3, .slice o4 1 c4]) (t := 27) hA hM rfl rfl rfl (fun g => .pointer (some ⟨g, 0, none⟩)) (does_box rfl rfl) (by decide) ?_
 intro g4 w5 hM a hA
 refine seq_do hA rfl rfl rfl (does_assign rfl) ?_
 intro a hA
 refine seq_do hA rfl rfl rfl (does_assign rfl) ?_
 intro a hA
 refine seq_end ?_
 refine hK1 _ _ ?_
 refine wp_seq_k (fun K6 hK6 => ?_)
 refine wp_region_lit ?_
 refine seq_do hA rfl rfl rfl (m_loadS hM ByP_isS_27 rfl 0 rfl (cs := [.bool b, .slice o1 ((words x).length) c1, .slice o2 1 c2, .bool false, .slice o3 0 c3, .slice o4 1 c4]) rfl rfl) ?_
 intro a hA
 refine seq_call hA rfl rfl rfl (enters_func rfl rfl (fun w => by kernel_rfl)) ((by have h9 := lengthPW_any (w := w5) (nm_below ha hM.bel) (lenQ_whole hx) hw hx hbx; rw [lengthQ_whole hw, hln] at h9; exact h9)) ?_
 rintro _ w8 ⟨rfl, hb7⟩
 replace hM := hM.call hb7
 refine ⟨_, rfl, ?_⟩
 intro a hA
 refine seq_do hA rfl rfl rfl (does_move rfl) ?_
 intro a hA
 refine seq_do (v := .int .i64 (((ln : Nat) : Int))) hA rfl rfl rfl (does_extract (vs := [.int .i64 (((ln : Nat) : Int)), .int .i64 0]) rfl rfl) ?_
 intro a hA
 refine seq_do (v := .int .i64 0) hA rfl rfl rfl (does_extract (vs := [.int .i64 (((ln : Nat) : Int)), .int .i64 0]) rfl rfl) ?_
 intro a hA
 refine seq_do hA rfl rfl rfl (does_assign rfl) ?_
 intro a hA
 refine seq_do hA rfl rfl rfl (does_assign rfl) ?_
 intro a hA
 refine seq_end ?_
 refine hK6 _ _ ?_
 refine wp_seq_k (fun K9 hK9 => ?_)
 refine wp_seq_k (fun K10 hK10 => ?_)
 refine wp_region_lit ?_
 refine seq_do hA rfl rfl rfl (does_move rfl) ?_
 intro a hA
 refine seq_do (v := .bool false) hA rfl rfl rfl (does_bin rfl rfl (fun w => by kernel_rfl)) ?_
 intro a hA
 refine seq_end ?_
 refine hK10 _ _ ?_
 refine wp_cond_false (hA.ev rfl) ?_
 refine wp_skip ?_
 refine hK9 _ _ ?_
 refine wp_seq_k (fun K11 hK11 => ?_)
 refine wp_seq_k (fun K12 hK12 => ?_)
 refine wp_region_lit ?_
 refine seq_do (v := .pointer (some ⟨g4, 0, none⟩)) hA rfl rfl rfl (does_field ByP_fld_27_0 rfl rfl) ?_
 intro a hA
 refine seq_do (v := .pointer (some ⟨g4, 0, none⟩)) hA rfl rfl rfl (does_field ByP_fld_25_0 rfl rfl) ?_
 intro a hA
 refine seq_do hA rfl rfl rfl (m_load1 hM ByP_is1_4 rfl 0 rfl rfl) ?_
 intro a hA
 refine seq_do hA rfl rfl rfl (does_move rfl) ?_
 intro a hA
 rcases b with _ | _
 · refine seq_skip hA rfl rfl rfl ?_
   intro a hA
   refine seq_skip hA rfl rfl rfl ?_
   intro a hA
   refine seq_skip hA rfl rfl rfl ?_
   intro a hA
   refine seq_do (v := .bool false) hA rfl rfl rfl (does_pick rfl rfl rfl rfl) ?_
   intro a hA
   refine seq_do hA rfl rfl rfl (does_move rfl) ?_
   intro a hA
   refine seq_do hA rfl rfl rfl (does_move rfl) ?_
   intro a hA
   refine seq_do hA rfl rfl rfl (m_loadS hM ByP_isS_44 rfl 1 rfl (cs := [.int .i64 (((n : Nat) : Int)), .bool false, .bool true]) rfl rfl) ?_
   intro a hA
   refine seq_call hA rfl rfl rfl (enters_func rfl rfl (fun w => by kernel_rfl)) (room_true h1 h64) ?_
   rintro _ w14 ⟨rfl, hb13⟩
   replace hM := hM.call hb13
   refine ⟨_, rfl, ?_⟩
   intro a hA
   refine seq_do (v := .bool false) hA rfl rfl rfl (does_bin rfl rfl (fun w => (bin_gtr w).trans (by rw [show (decide (((n * 8 - 1 : Nat) : Int) < ((ln : Nat) : Int))) = false from (decide_eq_false (by omega))]))) ?_
   intro a hA
   refine seq_do (v := .bool false) hA rfl rfl rfl (does_pick rfl rfl rfl rfl) ?_
   intro a hA
   refine seq_end ?_
   refine hK12 _ _ ?_
   refine wp_cond_false (hA.ev rfl) ?_
   refine wp_skip ?_
   refine hK11 _ _ ?_
   refine wp_seq_k (fun K15 hK15 => ?_)
   refine wp_region_lit ?_
   refine seq_do hA rfl rfl rfl (m_loadS hM ByP_isS_27 rfl 0 rfl (cs := [.bool false, .slice o1 ((words x).length) c1, .slice o2 1 c2, .bool false, .slice o3 0 c3, .slice o4 1 c4]) rfl rfl) ?_
   intro a hA
   refine seq_do (v := .pointer (some ⟨g2, 0, none⟩)) hA rfl rfl rfl (does_field ByP_fld_44_0 rfl rfl) ?_
   intro a hA
   refine seq_do hA rfl rfl rfl (m_load1 hM ByP_is1_3 rfl 1 rfl rfl) ?_
   intro a hA
   refine seq_do (v := .int .i64 (((n * 8 : Nat) : Int))) hA rfl rfl rfl (does_bin rfl rfl (ar_mul ((in_i64 (by omega) (by omega)).trans (by omega)))) ?_
   intro a hA
   refine seq_call hA rfl rfl rfl (enters_func rfl rfl (fun w => by kernel_rfl)) ((show Calls Tryd.prog 72 _ _ (AnsN _ (Q6.whole false F, 0)) from (by have h9 := fieldPW_any (w := w14) (S := 0) (E := n * 8) (nm_below ha hM.bel) (lenQ_whole hx) (by omega) (by omega) hw hx hbx; rw [fieldQ_ok hw (by omega) (by omega), Nat.sub_zero, hF] at h9; exact h9))) ?_
   rintro _ w19 ⟨o18_1, o18_c1, o18_2, o18_c2, o18_3, o18_c3, o18_4, o18_c4, rfl, hn16, hb17⟩
   replace hM := hM.call hb17
   refine ⟨_, rfl, ?_⟩
   intro a hA
   refine seq_do hA rfl rfl rfl (does_move rfl) ?_
   intro a hA
   refine seq_do (v := .agg #[.bool false, .slice o18_1 ((words F).length) o18_c1, .slice o18_2 1 o18_c2, .bool false, .slice o18_3 0 o18_c3, .slice o18_4 1 o18_c4]) hA rfl rfl rfl (does_extract (vs := [.agg #[.bool false, .slice o18_1 ((words F).length) o18_c1, .slice o18_2 1 o18_c2, .bool false, .slice o18_3 0 o18_c3, .slice o18_4 1 o18_c4], .int .i64 0]) rfl rfl) ?_
   intro a hA
   refine seq_do (v := .int .i64 0) hA rfl rfl rfl (does_extract (vs := [.agg #[.bool false, .slice o18_1 ((words F).length) o18_c1, .slice o18_2 1 o18_c2, .bool false, .slice o18_3 0 o18_c3, .slice o18_4 1 o18_c4], .int .i64 0]) rfl rfl) ?_
   intro a hA
   refine s_newN (vs := [.bool false, .slice none 0 0, .slice none 0 0, .bool false, .slice none 0 0, .slice none 0 0]) (t := 27) hA hM rfl rfl rfl (fun g => .pointer (some ⟨g, 0, none⟩)) (does_alloc (z := .agg #[.bool false, .slice none 0 0, .slice none 0 0, .bool false, .slice none 0 0, .slice none 0 0]) (by kernel_rfl) rfl) (by decide) ?_
   intro g20 w21 hM hc22 a hA
   replace hn16 := nm_carry hn16 hc22
   refine s_storeN (us := [.bool false, .slice o18_1 ((words F).length) o18_c1, .slice o18_2 1 o18_c2, .bool false, .slice o18_3 0 o18_c3, .slice o18_4 1 o18_c4]) (L' := (.obj g20 (.cells #[.bool false, .slice o18_1 ((words F).length) o18_c1, .slice o18_2 1 o18_c2, .bool false, .slice o18_3 0 o18_c3, .slice o18_4 1 o18_c4] 27) :: .obj g4 (.cells #[.bool false, .slice o1 ((words x).length) c1, .slice o2 1 c2, .bool false, .slice o3 0 c3, .slice o4 1 c4] 27) :: .obj g2 (.cells #[.int .i64 (((n : Nat) : Int)), .bool false, .bool true] 44) :: [])) hA hM rfl rfl (m_store rfl rfl rfl (by kernel_rfl) hM 0 rfl rfl rfl) 0 rfl rfl rfl rfl rfl rfl ?_
   intro w23 hM hc24
   replace hn16 := nm_carry hn16 hc24
   refine seq_do hA rfl rfl rfl (does_assign rfl) ?_
   intro a hA
   refine seq_end ?_
   refine hK15 _ _ ?_
   refine wp_seq_k (fun K25 hK25 => ?_)
   refine wp_region_lit ?_
   refine seq_do (v := .pointer (some ⟨g2, 0, none⟩)) hA rfl rfl rfl (does_field ByP_fld_44_0 rfl rfl) ?_
   intro a hA
   refine seq_do hA rfl rfl rfl (m_load1 hM ByP_is1_3 rfl 2 rfl rfl) ?_
   intro a hA
   refine s_makeN (z := .int .u8 0) (sz := 1) (by_ := 1) (m := n) hA hM Tryd.underlying22 (by kernel_rfl) rfl rfl rfl rfl rfl rfl (by omega) (by omega) (.inr (noBld_cons (by simp) (noBld_cons (by simp) (noBld_cons (by simp) (noBld_quiet quietL_nil))))) ?_
   intro gx w26 hM hc27 a hA
   replace hn16 := nm_carry hn16 hc27
   rw [lbI_made n F] at hM
   refine seq_do hA rfl rfl rfl (does_assign rfl) ?_
   intro a hA
   refine seq_end ?_
   refine hK25 _ _ ?_
   refine wp_seq_k (fun K28 hK28 => ?_)
   refine wp_seq_k (fun K29 hK29 => ?_)
   refine wp_region_lit ?_
   refine seq_do (v := .pointer (some ⟨g2, 0, none⟩)) hA rfl rfl rfl (does_field ByP_fld_44_0 rfl rfl) ?_
   intro a hA
   refine seq_do hA rfl rfl rfl (m_load1 hM ByP_is1_3 rfl 3 rfl rfl) ?_
   intro a hA
   refine seq_do (v := .pointer (some ⟨g20, 0, none⟩)) hA rfl rfl rfl (does_field ByP_fld_27_0 rfl rfl) ?_
   intro a hA
   refine seq_do (v := .pointer (some ⟨g20, 1, none⟩)) hA rfl rfl rfl (does_field ByP_fld_25_1 rfl rfl) ?_
   intro a hA
   refine seq_do hA rfl rfl rfl (m_load1 hM ByP_is1_23 rfl 1 rfl rfl) ?_
   intro a hA
   refine seq_do (v := .int .i64 ((((words F).length : Nat) : Int))) hA rfl rfl rfl (does_len Tryd.underlying23 rfl) ?_
   intro a hA
   refine seq_do (v := .int .i64 ((((words F).length * 4 : Nat) : Int))) hA rfl rfl rfl (does_bin rfl rfl (ar_mul ((in_i64 (by omega) (by omega)).trans (by omega)))) ?_
   intro a hA
   refine seq_do (v := .int .i64 (((min n ((words F).length * 4) : Nat) : Int))) hA rfl rfl rfl (does_builtin rfl min_nat) ?_
   intro a hA
   refine seq_do hA rfl rfl rfl (does_move rfl) ?_
   intro a hA
   refine seq_end ?_
   refine hK29 _ _ ?_
   refine wp_block ?_
   refine wp_loop_n (fun m_ a w1 => ∃ (i : Nat), m_ = n - i ∧ (i ≤ min n ((words F).length * 4) ∧ Rd w1 o18_1 (words F)) ∧ Sl a 75 [(0, .agg #[.int .i64 (((n : Nat) : Int)), .bool false, .bool true]), (1, .agg #[.bool false, .slice o1 ((words x).length) c1, .slice o2 1 c2, .bool false, .slice o3 0 c3, .slice o4 1 c4]), (2, .pointer (some ⟨g2, 0, none⟩)), (3, .pointer (some ⟨g4, 0, none⟩)), (4, .slice none 0 0), (5, .int .i64 0), (6, .int .i64 (((ln : Nat) : Int))), (7, .int .i64 0), (8, .pointer (some ⟨g20, 0, none⟩)), (9, .int .i64 0), (10, .slice (some ⟨gx, 0, none⟩) n n), (12, .tuple #[.int .i64 (((ln : Nat) : Int)), .int .i64 0]), (13, .agg #[.bool false, .slice o1 ((words x).length) c1, .slice o2 1 c2, .bool false, .slice o3 0 c3, .slice o4 1 c4]), (14, .tuple #[.int .i64 (((ln : Nat) : Int)), .int .i64 0]), (15, .int .i64 (((ln : Nat) : Int))), (16, .int .i64 0), (17, .int .i64 0), (18, .bool false), (20, .pointer (some ⟨g4, 0, none⟩)), (21, .pointer (some ⟨g4, 0, none⟩)), (22, .bool false), (23, .bool false), (27, .bool false), (28, .bool false), (29, .int .i64 (((ln : Nat) : Int))), (30, .agg #[.int .i64 (((n : Nat) : Int)), .bool false, .bool true]), (31, .int .i64 (((n * 8 - 1 : Nat) : Int))), (32, .bool false), (33, .bool false), (34, .tuple #[.agg #[.bool false, .slice o18_1 ((words F).length) o18_c1, .slice o18_2 1 o18_c2, .bool false, .slice o18_3 0 o18_c3, .slice o18_4 1 o18_c4], .int .i64 0]), (35, .agg #[.bool false, .slice o1 ((words x).length) c1, .slice o2 1 c2, .bool false, .slice o3 0 c3, .slice o4 1 c4]), (36, .pointer (some ⟨g2, 0, none⟩)), (37, .int .i64 (((n : Nat) : Int))), (38, .int .i64 (((n * 8 : Nat) : Int))), (39, .tuple #[.agg #[.bool false, .slice o18_1 ((words F).length) o18_c1, .slice o18_2 1 o18_c2, .bool false, .slice o18_3 0 o18_c3, .slice o18_4 1 o18_c4], .int .i64 0]), (40, .agg #[.bool false, .slice o18_1 ((words F).length) o18_c1, .slice o18_2 1 o18_c2, .bool false, .slice o18_3 0 o18_c3, .slice o18_4 1 o18_c4]), (41, .int .i64 0), (42, .pointer (some ⟨g2, 0, none⟩)), (43, .int .i64 (((n : Nat) : Int))), (44, .slice (some ⟨gx, 0, none⟩) n n), (45, .pointer (some ⟨g2, 0, none⟩)), (46, .int .i64 (((n : Nat) : Int))), (47, .pointer (some ⟨g20, 0, none⟩)), (48, .pointer (some ⟨g20, 1, none⟩)), (49, .slice o18_1 ((words F).length) o18_c1), (50, .int .i64 ((((words F).length : Nat) : Int))), (51, .int .i64 ((((words F).length * 4 : Nat) : Int))), (52, .int .i64 (((min n ((words F).length * 4) : Nat) : Int))), (53, .int .i64 (((i : Nat) : Int)))] ∧ Mg w w1 (.row BY 1 (.slice (some ⟨gx, 0, none⟩) n n) n ((Lib.byteCells (lbI n F i))) :: .obj g20 (.cells #[.bool false, .slice o18_1 ((words F).length) o18_c1, .slice o18_2 1 o18_c2, .bool false, .slice o18_3 0 o18_c3, .slice o18_4 1 o18_c4] 27) :: .obj g4 (.cells #[.bool false, .slice o1 ((words x).length) c1, .slice o2 1 c2, .bool false, .slice o3 0 c3, .slice o4 1 c4] 27) :: .obj g2 (.cells #[.int .i64 (((n : Nat) : Int)), .bool false, .bool true] 44) :: [])) _ ⟨0, rfl, ⟨Nat.zero_le _, hn16.s1.rd⟩, hA.keep _ ⟨rfl, rfl, rfl, rfl, rfl, rfl, rfl, rfl, rfl, rfl, rfl, rfl, rfl, rfl, rfl, rfl, rfl, rfl, rfl, rfl, rfl, rfl, rfl, rfl, rfl, rfl, rfl, rfl, rfl, rfl, rfl, rfl, rfl, rfl, rfl, rfl, rfl, rfl, rfl, rfl, rfl, rfl, rfl, rfl, rfl, rfl, rfl, rfl, rfl, trivial⟩, hM⟩ ?_
   clear hM hA
   rintro m_ a w30 ⟨i, rfl, hinv32, hA, hM⟩ K31 hK31
   obtain ⟨hi9, hrdF⟩ := hinv32
   refine wp_seq_k (fun K33 hK33 => ?_)
   refine wp_region_lit ?_
   rcases Bool.eq_false_or_eq_true (decide (((i : Nat) : Int) < ((min n ((words F).length * 4) : Nat) : Int))) with hb34 | hb34
   · have hb34' := of_decide_eq_true hb34
     refine seq_do (v := .bool true) hA rfl rfl rfl (does_bin rfl rfl (fun w => (bin_lss w).trans (by rw [hb34]))) ?_
     intro a hA
     refine seq_end ?_
     refine hK33 _ _ ?_
     refine wp_seq_k (fun K35 hK35 => ?_)
     refine wp_cond_true (hA.ev rfl) ?_
     refine wp_skip ?_
     refine hK35 _ _ ?_
     refine wp_seq_k (fun K36 hK36 => ?_)
     refine wp_block ?_
     refine wp_seq_k (fun K37 hK37 => ?_)
     refine wp_region_lit ?_
     refine seq_do hA rfl rfl rfl (does_move rfl) ?_
     intro a hA
     refine seq_do hA rfl rfl rfl (does_assign rfl) ?_
     intro a hA
     refine seq_end ?_
     refine hK37 _ _ ?_
     refine wp_region_lit ?_
     refine seq_do hA rfl rfl rfl (does_move rfl) ?_
     intro a hA
     refine seq_do hA rfl rfl rfl (does_move rfl) ?_
     intro a hA
     refine seq_do (v := .pointer (some ⟨g20, 0, none⟩)) hA rfl rfl rfl (does_field ByP_fld_27_0 rfl rfl) ?_
     intro a hA
     refine seq_do (v := .pointer (some ⟨g20, 1, none⟩)) hA rfl rfl rfl (does_field ByP_fld_25_1 rfl rfl) ?_
     intro a hA
     refine seq_do hA rfl rfl rfl (m_load1 hM ByP_is1_23 rfl 1 rfl rfl) ?_
     intro a hA
     refine seq_do hA rfl rfl rfl (does_move rfl) ?_
     intro a hA
     refine seq_do (v := .int .i64 (((i / 4 : Nat) : Int))) hA rfl rfl rfl (does_bin rfl rfl (ar_quo (by decide) ((congrArg IntKind.i64.wrap (Int.tdiv_eq_ediv_of_nonneg (by omega))).trans ((in_i64 (by omega) (by omega)).trans (by omega))))) ?_
     intro a hA
     have hj9 : i / 4 < (words F).length := by omega
     obtain ⟨bx38, ox39, hx40⟩ := hrdF.addr hj9
     refine seq_do (v := .pointer (some ⟨bx38, ox39 + i / 4, none⟩)) hA rfl rfl rfl (does_indexRow (k := i / 4) Tryd.underlying23 (by kernel_rfl) rfl rfl rfl hx40 hj9) ?_
     intro a hA
     refine seq_do (v := .int .u32 ((((words F).getD (i / 4) 0 : Nat) : Int))) hA rfl rfl rfl (m_loadW (hrdF.at_ hx40 hj9) ByP_is1_49 rfl) ?_
     intro a hA
     refine seq_do hA rfl rfl rfl (does_move rfl) ?_
     intro a hA
     refine seq_do (v := .int .i64 (((i % 4 : Nat) : Int))) hA rfl rfl rfl (does_bin rfl rfl (ar_rem (by decide) ((Int.tmod_eq_emod_of_nonneg (by omega)).trans (by omega)))) ?_
     intro a hA
     refine seq_do (v := .int .i64 (((i % 4 * 8 : Nat) : Int))) hA rfl rfl rfl (does_bin rfl rfl (ar_mul ((in_i64 (by omega) (by omega)).trans (by omega)))) ?_
     intro a hA
     refine seq_do (v := .int .u32 ((((words F).getD (i / 4) 0 / 2 ^ (i % 4 * 8) : Nat) : Int))) hA rfl rfl rfl (does_bin rfl rfl (ar_shr (n := i % 4 * 8) rfl (Nat.ble_eq_true_of_le (show i % 4 * 8 ≤ 32 by omega)) (by rw [Int.natCast_ediv, Int.natCast_pow]; rfl))) ?_
     intro a hA
     refine seq_do (v := .int .u8 (((F / 256 ^ i % 256 : Nat) : Int))) hA rfl rfl rfl (does_convert rfl (ar_conv Tryd.underlying49 Tryd.underlying5 (by rw [← wd_byte]; exact wrap8 _))) ?_
     intro a hA
     refine seq_do (v := .pointer (some ⟨gx, (i) * 1, none⟩)) hA rfl rfl rfl (does_indexE Tryd.underlying22 (by kernel_rfl) rfl rfl rfl (show i < n by omega)) ?_
     intro a hA
     refine s_storeEN (c := .int .u8 (((F / 256 ^ i % 256 : Nat) : Int))) (L' := (.row BY 1 (.slice (some ⟨gx, 0, none⟩) n n) n ((over (Lib.byteCells (lbI n F i)) ((i) * 1) [.int .u8 (((F / 256 ^ i % 256 : Nat) : Int))])) :: .obj g20 (.cells #[.bool false, .slice o18_1 ((words F).length) o18_c1, .slice o18_2 1 o18_c2, .bool false, .slice o18_3 0 o18_c3, .slice o18_4 1 o18_c4] 27) :: .obj g4 (.cells #[.bool false, .slice o1 ((words x).length) c1, .slice o2 1 c2, .bool false, .slice o3 0 c3, .slice o4 1 c4] 27) :: .obj g2 (.cells #[.int .i64 (((n : Nat) : Int)), .bool false, .bool true] 44) :: [])) hA hM rfl rfl (m_storeE rfl rfl rfl (by kernel_rfl) hM 0 rfl (show (i) * 1 + 1 ≤ n * 1 by omega) rfl) 0 rfl (cells_get (l := lbI n F i) (i := i) (by rw [lbI_len]; omega)) rfl rfl ?_
     intro w41 hM hc42
     replace hrdF := hc42 _ _ hrdF
     replace hM : Mg w w41 (.row BY 1 (.slice (some ⟨gx, 0, none⟩) n n) n ((Lib.byteCells (lbI n F (i + 1)))) :: .obj g20 (.cells #[.bool false, .slice o18_1 ((words F).length) o18_c1, .slice o18_2 1 o18_c2, .bool false, .slice o18_3 0 o18_c3, .slice o18_4 1 o18_c4] 27) :: .obj g4 (.cells #[.bool false, .slice o1 ((words x).length) c1, .slice o2 1 c2, .bool false, .slice o3 0 c3, .slice o4 1 c4] 27) :: .obj g2 (.cells #[.int .i64 (((n : Nat) : Int)), .bool false, .bool true] 44) :: []) := by
       have h9 := hM
       rw [lbI_step (by omega)] at h9
       exact h9
     refine seq_end ?_
     refine hK36 _ _ ?_
     refine wp_region_lit ?_
     refine seq_do (v := .int .i64 (((i + 1 : Nat) : Int))) hA rfl rfl rfl (does_bin rfl rfl (ar_add ((in_i64 (by omega) (by omega)).trans (by omega)))) ?_
     intro a hA
     refine seq_do hA rfl rfl rfl (does_move rfl) ?_
     intro a hA
     refine seq_end ?_
     refine hK31 _ _ _ (by omega) ⟨i + 1, rfl, ⟨by omega, hrdF⟩, hA.keep _ ⟨rfl, rfl, rfl, rfl, rfl, rfl, rfl, rfl, rfl, rfl, rfl, rfl, rfl, rfl, rfl, rfl, rfl, rfl, rfl, rfl, rfl, rfl, rfl, rfl, rfl, rfl, rfl, rfl, rfl, rfl, rfl, rfl, rfl, rfl, rfl, rfl, rfl, rfl, rfl, rfl, rfl, rfl, rfl, rfl, rfl, rfl, rfl, rfl, rfl, trivial⟩, hM⟩
   · have hb34' := of_decide_eq_false hb34
     refine seq_do (v := .bool false) hA rfl rfl rfl (does_bin rfl rfl (fun w => (bin_lss w).trans (by rw [hb34]))) ?_
     intro a hA
     refine seq_end ?_
     refine hK33 _ _ ?_
     refine wp_seq_k (fun K43 hK43 => ?_)
     refine wp_cond_false (hA.ev rfl) ?_
     refine wp_exit ?_
     refine hK28 _ _ ?_
     refine wp_seq_k (fun K44 hK44 => ?_)
     refine wp_region_lit ?_
     refine seq_do hA rfl rfl rfl (m_loadS hM ByP_isS_44 rfl 3 rfl (cs := [.int .i64 (((n : Nat) : Int)), .bool false, .bool true]) rfl rfl) ?_
     intro a hA
     refine seq_do hA rfl rfl rfl (does_move rfl) ?_
     intro a hA
     have hi8 : i = min n ((words F).length * 4) := by omega
     have hd8 := lbI_done hi8
     replace hM : Mg w w30 (.row BY 1 (.slice (some ⟨gx, 0, none⟩) n n) n ((Lib.byteCells (leB n F))) :: .obj g20 (.cells #[.bool false, .slice o18_1 ((words F).length) o18_c1, .slice o18_2 1 o18_c2, .bool false, .slice o18_3 0 o18_c3, .slice o18_4 1 o18_c4] 27) :: .obj g4 (.cells #[.bool false, .slice o1 ((words x).length) c1, .slice o2 1 c2, .bool false, .slice o3 0 c3, .slice o4 1 c4] 27) :: .obj g2 (.cells #[.int .i64 (((n : Nat) : Int)), .bool false, .bool true] 44) :: []) := by
       have h9 := hM
       rw [hd8] at h9
       exact h9
     refine seq_call hA rfl rfl rfl (enters_func rfl rfl (fun w => by kernel_rfl)) ((by have h9 := reordered_false (w := w30) (sg := true) (cp := n) (rb_row (bs := leB n F) hM 0 rfl).1 (by rw [leB_len]; omega); rw [leB_len] at h9; exact h9)) ?_
     rintro _ w47 ⟨g45, rfl, hM46⟩
     replace hM : Mg w w47 (.row BY 1 (.slice (some ⟨g45, 0, none⟩) n n) n ((Lib.byteCells (lowB false (leB n F)))) :: .row BY 1 (.slice (some ⟨gx, 0, none⟩) n n) n ((Lib.byteCells (leB n F))) :: .obj g20 (.cells #[.bool false, .slice o18_1 ((words F).length) o18_c1, .slice o18_2 1 o18_c2, .bool false, .slice o18_3 0 o18_c3, .slice o18_4 1 o18_c4] 27) :: .obj g4 (.cells #[.bool false, .slice o1 ((words x).length) c1, .slice o2 1 c2, .bool false, .slice o3 0 c3, .slice o4 1 c4] 27) :: .obj g2 (.cells #[.int .i64 (((n : Nat) : Int)), .bool false, .bool true] 44) :: []) := (hM.both hM46 (noBld_cons (by simp) (noBld_cons (by simp) (noBld_cons (by simp) (noBld_cons (by simp) (noBld_quiet quietL_nil))))) (noBld_cons (by simp) (noBld_quiet quietL_nil)))
     refine ⟨_, rfl, ?_⟩
     intro a hA
     refine seq_do hA rfl rfl rfl (does_assign rfl) ?_
     intro a hA
     refine seq_do hA rfl rfl rfl (does_assign rfl) ?_
     intro a hA
     refine seq_end ?_
     refine hK44 _ _ ?_
     refine wp_ret ?_
     refine hret _ _ ?_
     refine ends (v := .tuple #[.slice (some ⟨g45, 0, none⟩) n n, .int .i64 0]) hA rfl (.cons (res_tmp rfl) (.cons (res_tmp rfl) .nil)) rfl ?_
     exact ⟨g45, rfl, hM.sub (.cons_cons _ (.cons _ (.cons _ (.cons _ (.cons _ (.refl _))))))⟩
 · refine seq_do (v := .pointer (some ⟨g2, 2, none⟩)) hA rfl rfl rfl (does_field ByP_fld_44_2 rfl rfl) ?_
   intro a hA
   refine seq_do hA rfl rfl rfl (m_load1 hM ByP_is1_4 rfl 1 rfl rfl) ?_
   intro a hA
   refine seq_do (v := .bool false) hA rfl rfl rfl (does_un rfl un_not) ?_
   intro a hA
   refine seq_do (v := .bool false) hA rfl rfl rfl (does_pick rfl rfl rfl rfl) ?_
   intro a hA
   refine seq_do hA rfl rfl rfl (does_move rfl) ?_
   intro a hA
   refine seq_do hA rfl rfl rfl (does_move rfl) ?_
   intro a hA
   refine seq_do hA rfl rfl rfl (m_loadS hM ByP_isS_44 rfl 1 rfl (cs := [.int .i64 (((n : Nat) : Int)), .bool false, .bool true]) rfl rfl) ?_
   intro a hA
   refine seq_call hA rfl rfl rfl (enters_func rfl rfl (fun w => by kernel_rfl)) (room_true h1 h64) ?_
   rintro _ w49 ⟨rfl, hb48⟩
   replace hM := hM.call hb48
   refine ⟨_, rfl, ?_⟩
   intro a hA
   refine seq_do (v := .bool false) hA rfl rfl rfl (does_bin rfl rfl (fun w => (bin_gtr w).trans (by rw [show (decide (((n * 8 - 1 : Nat) : Int) < ((ln : Nat) : Int))) = false from (decide_eq_false (by omega))]))) ?_
   intro a hA
   refine seq_do (v := .bool false) hA rfl rfl rfl (does_pick rfl rfl rfl rfl) ?_
   intro a hA
   refine seq_end ?_
   refine hK12 _ _ ?_
   refine wp_cond_false (hA.ev rfl) ?_
   refine wp_skip ?_
   refine hK11 _ _ ?_
   refine wp_seq_k (fun K50 hK50 => ?_)
   refine wp_region_lit ?_
   refine seq_do hA rfl rfl rfl (m_loadS hM ByP_isS_27 rfl 0 rfl (cs := [.bool true, .slice o1 ((words x).length) c1, .slice o2 1 c2, .bool false, .slice o3 0 c3, .slice o4 1 c4]) rfl rfl) ?_
   intro a hA
   refine seq_do (v := .pointer (some ⟨g2, 0, none⟩)) hA rfl rfl rfl (does_field ByP_fld_44_0 rfl rfl) ?_
   intro a hA
   refine seq_do hA rfl rfl rfl (m_load1 hM ByP_is1_3 rfl 1 rfl rfl) ?_
   intro a hA
   refine seq_do (v := .int .i64 (((n * 8 : Nat) : Int))) hA rfl rfl rfl (does_bin rfl rfl (ar_mul ((in_i64 (by omega) (by omega)).trans (by omega)))) ?_
   intro a hA
   refine seq_call hA rfl rfl rfl (enters_func rfl rfl (fun w => by kernel_rfl)) ((show Calls Tryd.prog 72 _ _ (AnsN _ (Q6.whole false F, 0)) from (by have h9 := fieldPW_any (w := w49) (S := 0) (E := n * 8) (nm_below ha hM.bel) (lenQ_whole hx) (by omega) (by omega) hw hx hbx; rw [fieldQ_ok hw (by omega) (by omega), Nat.sub_zero, hF] at h9; exact h9))) ?_
   rintro _ w54 ⟨o53_1, o53_c1, o53_2, o53_c2, o53_3, o53_c3, o53_4, o53_c4, rfl, hn51, hb52⟩
   replace hM := hM.call hb52
   refine ⟨_, rfl, ?_⟩
   intro a hA
   refine seq_do hA rfl rfl rfl (does_move rfl) ?_
   intro a hA
   refine seq_do (v := .agg #[.bool false, .slice o53_1 ((words F).length) o53_c1, .slice o53_2 1 o53_c2, .bool false, .slice o53_3 0 o53_c3, .slice o53_4 1 o53_c4]) hA rfl rfl rfl (does_extract (vs := [.agg #[.bool false, .slice o53_1 ((words F).length) o53_c1, .slice o53_2 1 o53_c2, .bool false, .slice o53_3 0 o53_c3, .slice o53_4 1 o53_c4], .int .i64 0]) rfl rfl) ?_
   intro a hA
   refine seq_do (v := .int .i64 0) hA rfl rfl rfl (does_extract (vs := [.agg #[.bool false, .slice o53_1 ((words F).length) o53_c1, .slice o53_2 1 o53_c2, .bool false, .slice o53_3 0 o53_c3, .slice o53_4 1 o53_c4], .int .i64 0]) rfl rfl) ?_
   intro a hA
   refine s_newN (vs := [.bool false, .slice none 0 0, .slice none 0 0, .bool false, .slice none 0 0, .slice none 0 0]) (t := 27) hA hM rfl rfl rfl (fun g => .pointer (some ⟨g, 0, none⟩)) (does_alloc (z := .agg #[.bool false, .slice none 0 0, .slice none 0 0, .bool false, .slice none 0 0, .slice none 0 0]) (by kernel_rfl) rfl) (by decide) ?_
   intro g55 w56 hM hc57 a hA
   replace hn51 := nm_carry hn51 hc57
   refine s_storeN (us := [.bool false, .slice o53_1 ((words F).length) o53_c1, .slice o53_2 1 o53_c2, .bool false, .slice o53_3 0 o53_c3, .slice o53_4 1 o53_c4]) (L' := (.obj g55 (.cells #[.bool false, .slice o53_1 ((words F).length) o53_c1, .slice o53_2 1 o53_c2, .bool false, .slice o53_3 0 o53_c3, .slice o53_4 1 o53_c4] 27) :: .obj g4 (.cells #[.bool true, .slice o1 ((words x).length) c1, .slice o2 1 c2, .bool false, .slice o3 0 c3, .slice o4 1 c4] 27) :: .obj g2 (.cells #[.int .i64 (((n : Nat) : Int)), .bool false, .bool true] 44) :: [])) hA hM rfl rfl (m_store rfl rfl rfl (by kernel_rfl) hM 0 rfl rfl rfl) 0 rfl rfl rfl rfl rfl rfl ?_
   intro w58 hM hc59
   replace hn51 := nm_carry hn51 hc59
   refine seq_do hA rfl rfl rfl (does_assign rfl) ?_
   intro a hA
   refine seq_end ?_
   refine hK50 _ _ ?_
   refine wp_seq_k (fun K60 hK60 => ?_)
   refine wp_region_lit ?_
   refine seq_do (v := .pointer (some ⟨g2, 0, none⟩)) hA rfl rfl rfl (does_field ByP_fld_44_0 rfl rfl) ?_
   intro a hA
   refine seq_do hA rfl rfl rfl (m_load1 hM ByP_is1_3 rfl 2 rfl rfl) ?_
   intro a hA
   refine s_makeN (z := .int .u8 0) (sz := 1) (by_ := 1) (m := n) hA hM Tryd.underlying22 (by kernel_rfl) rfl rfl rfl rfl rfl rfl (by omega) (by omega) (.inr (noBld_cons (by simp) (noBld_cons (by simp) (noBld_cons (by simp) (noBld_quiet quietL_nil))))) ?_
   intro gx w61 hM hc62 a hA
   replace hn51 := nm_carry hn51 hc62
   rw [lbI_made n F] at hM
   refine seq_do hA rfl rfl rfl (does_assign rfl) ?_
   intro a hA
   refine seq_end ?_
   refine hK60 _ _ ?_
   refine wp_seq_k (fun K63 hK63 => ?_)
   refine wp_seq_k (fun K64 hK64 => ?_)
   refine wp_region_lit ?_
   refine seq_do (v := .pointer (some ⟨g2, 0, none⟩)) hA rfl rfl rfl (does_field ByP_fld_44_0 rfl rfl) ?_
   intro a hA
   refine seq_do hA rfl rfl rfl (m_load1 hM ByP_is1_3 rfl 3 rfl rfl) ?_
   intro a hA
   refine seq_do (v := .pointer (some ⟨g55, 0, none⟩)) hA rfl rfl rfl (does_field ByP_fld_27_0 rfl rfl) ?_
   intro a hA
   refine seq_do (v := .pointer (some ⟨g55, 1, none⟩)) hA rfl rfl rfl (does_field ByP_fld_25_1 rfl rfl) ?_
   intro a hA
   refine seq_do hA rfl rfl rfl (m_load1 hM ByP_is1_23 rfl 1 rfl rfl) ?_
   intro a hA
   refine seq_do (v := .int .i64 ((((words F).length : Nat) : Int))) hA rfl rfl rfl (does_len Tryd.underlying23 rfl) ?_
   intro a hA
   refine seq_do (v := .int .i64 ((((words F).length * 4 : Nat) : Int))) hA rfl rfl rfl (does_bin rfl rfl (ar_mul ((in_i64 (by omega) (by omega)).trans (by omega)))) ?_
   intro a hA
   refine seq_do (v := .int .i64 (((min n ((words F).length * 4) : Nat) : Int))) hA rfl rfl rfl (does_builtin rfl min_nat) ?_
   intro a hA
   refine seq_do hA rfl rfl rfl (does_move rfl) ?_
   intro a hA
   refine seq_end ?_
   refine hK64 _ _ ?_
   refine wp_block ?_
   refine wp_loop_n (fun m_ a w1 => ∃ (i : Nat), m_ = n - i ∧ (i ≤ min n ((words F).length * 4) ∧ Rd w1 o53_1 (words F)) ∧ Sl a 75 [(0, .agg #[.int .i64 (((n : Nat) : Int)), .bool false, .bool true]), (1, .agg #[.bool true, .slice o1 ((words x).length) c1, .slice o2 1 c2, .bool false, .slice o3 0 c3, .slice o4 1 c4]), (2, .pointer (some ⟨g2, 0, none⟩)), (3, .pointer (some ⟨g4, 0, none⟩)), (4, .slice none 0 0), (5, .int .i64 0), (6, .int .i64 (((ln : Nat) : Int))), (7, .int .i64 0), (8, .pointer (some ⟨g55, 0, none⟩)), (9, .int .i64 0), (10, .slice (some ⟨gx, 0, none⟩) n n), (12, .tuple #[.int .i64 (((ln : Nat) : Int)), .int .i64 0]), (13, .agg #[.bool true, .slice o1 ((words x).length) c1, .slice o2 1 c2, .bool false, .slice o3 0 c3, .slice o4 1 c4]), (14, .tuple #[.int .i64 (((ln : Nat) : Int)), .int .i64 0]), (15, .int .i64 (((ln : Nat) : Int))), (16, .int .i64 0), (17, .int .i64 0), (18, .bool false), (20, .pointer (some ⟨g4, 0, none⟩)), (21, .pointer (some ⟨g4, 0, none⟩)), (22, .bool true), (23, .bool true), (24, .pointer (some ⟨g2, 2, none⟩)), (25, .bool true), (26, .bool false), (27, .bool false), (28, .bool false), (29, .int .i64 (((ln : Nat) : Int))), (30, .agg #[.int .i64 (((n : Nat) : Int)), .bool false, .bool true]), (31, .int .i64 (((n * 8 - 1 : Nat) : Int))), (32, .bool false), (33, .bool false), (34, .tuple #[.agg #[.bool false, .slice o53_1 ((words F).length) o53_c1, .slice o53_2 1 o53_c2, .bool false, .slice o53_3 0 o53_c3, .slice o53_4 1 o53_c4], .int .i64 0]), (35, .agg #[.bool true, .slice o1 ((words x).length) c1, .slice o2 1 c2, .bool false, .slice o3 0 c3, .slice o4 1 c4]), (36, .pointer (some ⟨g2, 0, none⟩)), (37, .int .i64 (((n : Nat) : Int))), (38, .int .i64 (((n * 8 : Nat) : Int))), (39, .tuple #[.agg #[.bool false, .slice o53_1 ((words F).length) o53_c1, .slice o53_2 1 o53_c2, .bool false, .slice o53_3 0 o53_c3, .slice o53_4 1 o53_c4], .int .i64 0]), (40, .agg #[.bool false, .slice o53_1 ((words F).length) o53_c1, .slice o53_2 1 o53_c2, .bool false, .slice o53_3 0 o53_c3, .slice o53_4 1 o53_c4]), (41, .int .i64 0), (42, .pointer (some ⟨g2, 0, none⟩)), (43, .int .i64 (((n : Nat) : Int))), (44, .slice (some ⟨gx, 0, none⟩) n n), (45, .pointer (some ⟨g2, 0, none⟩)), (46, .int .i64 (((n : Nat) : Int))), (47, .pointer (some ⟨g55, 0, none⟩)), (48, .pointer (some ⟨g55, 1, none⟩)), (49, .slice o53_1 ((words F).length) o53_c1), (50, .int .i64 ((((words F).length : Nat) : Int))), (51, .int .i64 ((((words F).length * 4 : Nat) : Int))), (52, .int .i64 (((min n ((words F).length * 4) : Nat) : Int))), (53, .int .i64 (((i : Nat) : Int)))] ∧ Mg w w1 (.row BY 1 (.slice (some ⟨gx, 0, none⟩) n n) n ((Lib.byteCells (lbI n F i))) :: .obj g55 (.cells #[.bool false, .slice o53_1 ((words F).length) o53_c1, .slice o53_2 1 o53_c2, .bool false, .slice o53_3 0 o53_c3, .slice o53_4 1 o53_c4] 27) :: .obj g4 (.cells #[.bool true, .slice o1 ((words x).length) c1, .slice o2 1 c2, .bool false, .slice o3 0 c3, .slice o4 1 c4] 27) :: .obj g2 (.cells #[.int .i64 (((n : Nat) : Int)), .bool false, .bool true] 44) :: [])) _ ⟨0, rfl, ⟨Nat.zero_le _, hn51.s1.rd⟩, hA.keep _ ⟨rfl, rfl, rfl, rfl, rfl, rfl, rfl, rfl, rfl, rfl, rfl, rfl, rfl, rfl, rfl, rfl, rfl, rfl, rfl, rfl, rfl, rfl, rfl, rfl, rfl, rfl, rfl, rfl, rfl, rfl, rfl, rfl, rfl, rfl, rfl, rfl, rfl, rfl, rfl, rfl, rfl, rfl, rfl, rfl, rfl, rfl, rfl, rfl, rfl, rfl, rfl, rfl, trivial⟩, hM⟩ ?_
   clear hM hA
   rintro m_ a w65 ⟨i, rfl, hinv67, hA, hM⟩ K66 hK66
   obtain ⟨hi9, hrdF⟩ := hinv67
   refine wp_seq_k (fun K68 hK68 => ?_)
   refine wp_region_lit ?_
   rcases Bool.eq_false_or_eq_true (decide (((i : Nat) : Int) < ((min n ((words F).length * 4) : Nat) : Int))) with hb69 | hb69
   · have hb69' := of_decide_eq_true hb69
     refine seq_do (v := .bool true) hA rfl rfl rfl (does_bin rfl rfl (fun w => (bin_lss w).trans (by rw [hb69]))) ?_
     intro a hA
     refine seq_end ?_
     refine hK68 _ _ ?_
     refine wp_seq_k (fun K70 hK70 => ?_)
     refine wp_cond_true (hA.ev rfl) ?_
     refine wp_skip ?_
     refine hK70 _ _ ?_
     refine wp_seq_k (fun K71 hK71 => ?_)
     refine wp_block ?_
     refine wp_seq_k (fun K72 hK72 => ?_)
     refine wp_region_lit ?_
     refine seq_do hA rfl rfl rfl (does_move rfl) ?_
     intro a hA
     refine seq_do hA rfl rfl rfl (does_assign rfl) ?_
     intro a hA
     refine seq_end ?_
     refine hK72 _ _ ?_
     refine wp_region_lit ?_
     refine seq_do hA rfl rfl rfl (does_move rfl) ?_
     intro a hA
     refine seq_do hA rfl rfl rfl (does_move rfl) ?_
     intro a hA
     refine seq_do (v := .pointer (some ⟨g55, 0, none⟩)) hA rfl rfl rfl (does_field ByP_fld_27_0 rfl rfl) ?_
     intro a hA
     refine seq_do (v := .pointer (some ⟨g55, 1, none⟩)) hA rfl rfl rfl (does_field ByP_fld_25_1 rfl rfl) ?_
     intro a hA
     refine seq_do hA rfl rfl rfl (m_load1 hM ByP_is1_23 rfl 1 rfl rfl) ?_
     intro a hA
     refine seq_do hA rfl rfl rfl (does_move rfl) ?_
     intro a hA
     refine seq_do (v := .int .i64 (((i / 4 : Nat) : Int))) hA rfl rfl rfl (does_bin rfl rfl (ar_quo (by decide) ((congrArg IntKind.i64.wrap (Int.tdiv_eq_ediv_of_nonneg (by omega))).trans ((in_i64 (by omega) (by omega)).trans (by omega))))) ?_
     intro a hA
     have hj9 : i / 4 < (words F).length := by omega
     obtain ⟨bx73, ox74, hx75⟩ := hrdF.addr hj9
     refine seq_do (v := .pointer (some ⟨bx73, ox74 + i / 4, none⟩)) hA rfl rfl rfl (does_indexRow (k := i / 4) Tryd.underlying23 (by kernel_rfl) rfl rfl rfl hx75 hj9) ?_
     intro a hA
     refine seq_do (v := .int .u32 ((((words F).getD (i / 4) 0 : Nat) : Int))) hA rfl rfl rfl (m_loadW (hrdF.at_ hx75 hj9) ByP_is1_49 rfl) ?_
     intro a hA
     refine seq_do hA rfl rfl rfl (does_move rfl) ?_
     intro a hA
     refine seq_do (v := .int .i64 (((i % 4 : Nat) : Int))) hA rfl rfl rfl (does_bin rfl rfl (ar_rem (by decide) ((Int.tmod_eq_emod_of_nonneg (by omega)).trans (by omega)))) ?_
     intro a hA
     refine seq_do (v := .int .i64 (((i % 4 * 8 : Nat) : Int))) hA rfl rfl rfl (does_bin rfl rfl (ar_mul ((in_i64 (by omega) (by omega)).trans (by omega)))) ?_
     intro a hA
     refine seq_do (v := .int .u32 ((((words F).getD (i / 4) 0 / 2 ^ (i % 4 * 8) : Nat) : Int))) hA rfl rfl rfl (does_bin rfl rfl (ar_shr (n := i % 4 * 8) rfl (Nat.ble_eq_true_of_le (show i % 4 * 8 ≤ 32 by omega)) (by rw [Int.natCast_ediv, Int.natCast_pow]; rfl))) ?_
     intro a hA
     refine seq_do (v := .int .u8 (((F / 256 ^ i % 256 : Nat) : Int))) hA rfl rfl rfl (does_convert rfl (ar_conv Tryd.underlying49 Tryd.underlying5 (by rw [← wd_byte]; exact wrap8 _))) ?_
     intro a hA
     refine seq_do (v := .pointer (some ⟨gx, (i) * 1, none⟩)) hA rfl rfl rfl (does_indexE Tryd.underlying22 (by kernel_rfl) rfl rfl rfl (show i < n by omega)) ?_
     intro a hA
     refine s_storeEN (c := .int .u8 (((F / 256 ^ i % 256 : Nat) : Int))) (L' := (.row BY 1 (.slice (some ⟨gx, 0, none⟩) n n) n ((over (Lib.byteCells (lbI n F i)) ((i) * 1) [.int .u8 (((F / 256 ^ i % 256 : Nat) : Int))])) :: .obj g55 (.cells #[.bool false, .slice o53_1 ((words F).length) o53_c1, .slice o53_2 1 o53_c2, .bool false, .slice o53_3 0 o53_c3, .slice o53_4 1 o53_c4] 27) :: .obj g4 (.cells #[.bool true, .slice o1 ((words x).length) c1, .slice o2 1 c2, .bool false, .slice o3 0 c3, .slice o4 1 c4] 27) :: .obj g2 (.cells #[.int .i64 (((n : Nat) : Int)), .bool false, .bool true] 44) :: [])) hA hM rfl rfl (m_storeE rfl rfl rfl (by kernel_rfl) hM 0 rfl (show (i) * 1 + 1 ≤ n * 1 by omega) rfl) 0 rfl (cells_get (l := lbI n F i) (i := i) (by rw [lbI_len]; omega)) rfl rfl ?_
     intro w76 hM hc77
     replace hrdF := hc77 _ _ hrdF
     replace hM : Mg w w76 (.row BY 1 (.slice (some ⟨gx, 0, none⟩) n n) n ((Lib.byteCells (lbI n F (i + 1)))) :: .obj g55 (.cells #[.bool false, .slice o53_1 ((words F).length) o53_c1, .slice o53_2 1 o53_c2, .bool false, .slice o53_3 0 o53_c3, .slice o53_4 1 o53_c4] 27) :: .obj g4 (.cells #[.bool true, .slice o1 ((words x).length) c1, .slice o2 1 c2, .bool false, .slice o3 0 c3, .slice o4 1 c4] 27) :: .obj g2 (.cells #[.int .i64 (((n : Nat) : Int)), .bool false, .bool true] 44) :: []) := by
       have h9 := hM
       rw [lbI_step (by omega)] at h9
       exact h9
     refine seq_end ?_
     refine hK71 _ _ ?_
     refine wp_region_lit ?_
     refine seq_do (v := .int .i64 (((i + 1 : Nat) : Int))) hA rfl rfl rfl (does_bin rfl rfl (ar_add ((in_i64 (by omega) (by omega)).trans (by omega)))) ?_
     intro a hA
     refine seq_do hA rfl rfl rfl (does_move rfl) ?_
     intro a hA
     refine seq_end ?_
     refine hK66 _ _ _ (by omega) ⟨i + 1, rfl, ⟨by omega, hrdF⟩, hA.keep _ ⟨rfl, rfl, rfl, rfl, rfl, rfl, rfl, rfl, rfl, rfl, rfl, rfl, rfl, rfl, rfl, rfl, rfl, rfl, rfl, rfl, rfl, rfl, rfl, rfl, rfl, rfl, rfl, rfl, rfl, rfl, rfl, rfl, rfl, rfl, rfl, rfl, rfl, rfl, rfl, rfl, rfl, rfl, rfl, rfl, rfl, rfl, rfl, rfl, rfl, rfl, rfl, rfl, trivial⟩, hM⟩
   · have hb69' := of_decide_eq_false hb69
     refine seq_do (v := .bool false) hA rfl rfl rfl (does_bin rfl rfl (fun w => (bin_lss w).trans (by rw [hb69]))) ?_
     intro a hA
     refine seq_end ?_
     refine hK68 _ _ ?_
     refine wp_seq_k (fun K78 hK78 => ?_)
     refine wp_cond_false (hA.ev rfl) ?_
     refine wp_exit ?_
     refine hK63 _ _ ?_
     refine wp_seq_k (fun K79 hK79 => ?_)
     refine wp_region_lit ?_
     refine seq_do hA rfl rfl rfl (m_loadS hM ByP_isS_44 rfl 3 rfl (cs := [.int .i64 (((n : Nat) : Int)), .bool false, .bool true]) rfl rfl) ?_
     intro a hA
     refine seq_do hA rfl rfl rfl (does_move rfl) ?_
     intro a hA
     have hi8 : i = min n ((words F).length * 4) := by omega
     have hd8 := lbI_done hi8
     replace hM : Mg w w65 (.row BY 1 (.slice (some ⟨gx, 0, none⟩) n n) n ((Lib.byteCells (leB n F))) :: .obj g55 (.cells #[.bool false, .slice o53_1 ((words F).length) o53_c1, .slice o53_2 1 o53_c2, .bool false, .slice o53_3 0 o53_c3, .slice o53_4 1 o53_c4] 27) :: .obj g4 (.cells #[.bool true, .slice o1 ((words x).length) c1, .slice o2 1 c2, .bool false, .slice o3 0 c3, .slice o4 1 c4] 27) :: .obj g2 (.cells #[.int .i64 (((n : Nat) : Int)), .bool false, .bool true] 44) :: []) := by
       have h9 := hM
       rw [hd8] at h9
       exact h9
     refine seq_call hA rfl rfl rfl (enters_func rfl rfl (fun w => by kernel_rfl)) ((by have h9 := reordered_false (w := w65) (sg := true) (cp := n) (rb_row (bs := leB n F) hM 0 rfl).1 (by rw [leB_len]; omega); rw [leB_len] at h9; exact h9)) ?_
     rintro _ w82 ⟨g80, rfl, hM81⟩
     replace hM : Mg w w82 (.row BY 1 (.slice (some ⟨g80, 0, none⟩) n n) n ((Lib.byteCells (lowB false (leB n F)))) :: .row BY 1 (.slice (some ⟨gx, 0, none⟩) n n) n ((Lib.byteCells (leB n F))) :: .obj g55 (.cells #[.bool false, .slice o53_1 ((words F).length) o53_c1, .slice o53_2 1 o53_c2, .bool false, .slice o53_3 0 o53_c3, .slice o53_4 1 o53_c4] 27) :: .obj g4 (.cells #[.bool true, .slice o1 ((words x).length) c1, .slice o2 1 c2, .bool false, .slice o3 0 c3, .slice o4 1 c4] 27) :: .obj g2 (.cells #[.int .i64 (((n : Nat) : Int)), .bool false, .bool true] 44) :: []) := (hM.both hM81 (noBld_cons (by simp) (noBld_cons (by simp) (noBld_cons (by simp) (noBld_cons (by simp) (noBld_quiet quietL_nil))))) (noBld_cons (by simp) (noBld_quiet quietL_nil)))
     refine ⟨_, rfl, ?_⟩
     intro a hA
     refine seq_do hA rfl rfl rfl (does_assign rfl) ?_
     intro a hA
     refine seq_do hA rfl rfl rfl (does_assign rfl) ?_
     intro a hA
     refine seq_end ?_
     refine hK79 _ _ ?_
     refine wp_ret ?_
     refine hret _ _ ?_
     refine ends (v := .tuple #[.slice (some ⟨g80, 0, none⟩) n n, .int .i64 0]) hA rfl (.cons (res_tmp rfl) (.cons (res_tmp rfl) .nil)) rfl ?_
     exact ⟨g80, rfl, hM.sub (.cons_cons _ (.cons _ (.cons _ (.cons _ (.cons _ (.refl _))))))⟩
theorem laid_false_false {w : World} {b : Bool} {x n : Nat} {o1 o2 o3 o4 : Option Addr} {c1 c2 c3 c4 : Nat} (ha : Nm w (Q6.whole b x) o1 c1 o2 c2 o3 c3 o4 c4) (hx : (words x).length ≤ 512) (hbx : b.toNat ≤ x) (h1 : 1 ≤ n) (h64 : n ≤ 64) {F ln : Nat} (hF : fld b (x - b.toNat) 0 (n * 8) = F) (hln : bl (x - b.toNat) = ln) (hroom : ln ≤ n * 8) (hneg : b = false) : Calls Tryd.prog 42 #[.agg #[.int .i64 ((n : Nat) : Int), .bool false, .bool false], numV (Q6.whole b x) o1 c1 o2 c2 o3 c3 o4 c4] w fun e w' => ∃ g, e = .returned (.tuple #[.slice (some ⟨g, 0, none⟩) n n, .int .i64 0]) ∧ Mg w w' [.row BY 1 (.slice (some ⟨g, 0, none⟩) n n) n (Lib.byteCells (lowB false (leB n F)))] := by
 have hw := want_ok hx hbx
 subst hneg
 have hwl : (words F).length ≤ 512 := by rw [← hF]; exact fld_len (by omega)
 have hM : Mg w w ([]) := Mg.start w
 refine walk_of (l := [(0, .agg #[.int .i64 (((n : Nat) : Int)), .bool false, .bool false]), (1, .agg #[.bool false, .slice o1 ((words x).length) c1, .slice o2 1 c2, .bool false, .slice o3 0 c3, .slice o4 1 c4])]) Tryd.func42 rfl Tryd.ntmps42 rfl rfl ?_
 intro Q hret hnorm hP a hA
 refine wp_seq_k (fun K1 hK1 => ?_)
 refine wp_region_lit ?_
 refine s_new (vs := [.int .i64 (((n : Nat) : Int)), .bool false, .bool false]) (t := 44) hA hM rfl rfl rfl (fun g => .pointer (some ⟨g, 0, none⟩)) (does_box rfl rfl) (by decide) ?_
 intro g2 w3 hM a hA
 refine s_new (vs := [.bool false, .slice o1 ((words x).length) c1, .slice o2 1 c2, .bool false, .slice o3 0 c3, .slice o4 1 c4]) (t := 27) hA hM rfl rfl rfl (fun g => .pointer (some ⟨g, 0, none⟩)) (does_box rfl rfl) (by decide) ?_
 intro g4 w5 hM a hA
 refine seq_do hA rfl rfl rfl (does_assign rfl) ?_
 intro a hA
 refine seq_do hA rfl rfl rfl (does_assign rfl) ?_
 intro a hA
 refine seq_end ?_
 refine hK1 _ _ ?_
 refine wp_seq_k (fun K6 hK6 => ?_)
 refine wp_region_lit ?_
 refine seq_do hA rfl rfl rfl (m_loadS hM ByP_isS_27 rfl 0 rfl (cs := [.bool false, .slice o1 ((words x).length) c1, .slice o2 1 c2, .bool false, .slice o3 0 c3, .slice o4 1 c4]) rfl rfl) ?_
 intro a hA
 refine seq_call hA rfl rfl rfl (enters_func rfl rfl (fun w => by kernel_rfl)) ((by have h9 := lengthPW_any (w := w5) (nm_below ha hM.bel) (lenQ_whole hx) hw hx hbx; rw [lengthQ_whole hw, hln] at h9; exact h9)) ?_
 rintro _ w8 ⟨rfl, hb7⟩
 replace hM := hM.call hb7
 refine ⟨_, rfl, ?_⟩
 intro a hA
 refine seq_do hA rfl rfl rfl (does_move rfl) ?_
 intro a hA
 refine seq_do (v := .int .i64 (((ln : Nat) : Int))) hA rfl rfl rfl (does_extract (vs := [.int .i64 (((ln : Nat) : Int)), .int .i64 0]) rfl rfl) ?_
 intro a hA
 refine seq_do (v := .int .i64 0) hA rfl rfl rfl (does_extract (vs := [.int .i64 (((ln : Nat) : Int)), .int .i64 0]) rfl rfl) ?_
 intro a hA
 refine seq_do hA rfl rfl rfl (does_assign rfl) ?_
 intro a hA
 refine seq_do hA rfl rfl rfl (does_assign rfl) ?_
 intro a hA
 refine seq_end ?_
 refine hK6 _ _ ?_
 refine wp_seq_k (fun K9 hK9 => ?_)
 refine wp_seq_k (fun K10 hK10 => ?_)
 refine wp_region_lit ?_
 refine seq_do hA rfl rfl rfl (does_move rfl) ?_
 intro a hA
 refine seq_do (v := .bool false) hA rfl rfl rfl (does_bin rfl rfl (fun w => by kernel_rfl)) ?_
 intro a hA
 refine seq_end ?_
 refine hK10 _ _ ?_
 refine wp_cond_false (hA.ev rfl) ?_
 refine wp_skip ?_
 refine hK9 _ _ ?_
 refine wp_seq_k (fun K11 hK11 => ?_)
 refine wp_seq_k (fun K12 hK12 => ?_)
 refine wp_region_lit ?_
 refine seq_do (v := .pointer (some ⟨g4, 0, none⟩)) hA rfl rfl rfl (does_field ByP_fld_27_0 rfl rfl) ?_
 intro a hA
 refine seq_do (v := .pointer (some ⟨g4, 0, none⟩)) hA rfl rfl rfl (does_field ByP_fld_25_0 rfl rfl) ?_
 intro a hA
 refine seq_do hA rfl rfl rfl (m_load1 hM ByP_is1_4 rfl 0 rfl rfl) ?_
 intro a hA
 refine seq_do hA rfl rfl rfl (does_move rfl) ?_
 intro a hA
 refine seq_skip hA rfl rfl rfl ?_
 intro a hA
 refine seq_skip hA rfl rfl rfl ?_
 intro a hA
 refine seq_skip hA rfl rfl rfl ?_
 intro a hA
 refine seq_do (v := .bool false) hA rfl rfl rfl (does_pick rfl rfl rfl rfl) ?_
 intro a hA
 refine seq_do hA rfl rfl rfl (does_move rfl) ?_
 intro a hA
 refine seq_do hA rfl rfl rfl (does_move rfl) ?_
 intro a hA
 refine seq_do hA rfl rfl rfl (m_loadS hM ByP_isS_44 rfl 1 rfl (cs := [.int .i64 (((n : Nat) : Int)), .bool false, .bool false]) rfl rfl) ?_
 intro a hA
 refine seq_call hA rfl rfl rfl (enters_func rfl rfl (fun w => by kernel_rfl)) (room_false h1 h64) ?_
 rintro _ w14 ⟨rfl, hb13⟩
 replace hM := hM.call hb13
 refine ⟨_, rfl, ?_⟩
 intro a hA
 refine seq_do (v := .bool false) hA rfl rfl rfl (does_bin rfl rfl (fun w => (bin_gtr w).trans (by rw [show (decide (((n * 8 : Nat) : Int) < ((ln : Nat) : Int))) = false from (decide_eq_false (by omega))]))) ?_
 intro a hA
 refine seq_do (v := .bool false) hA rfl rfl rfl (does_pick rfl rfl rfl rfl) ?_
 intro a hA
 refine seq_end ?_
 refine hK12 _ _ ?_
 refine wp_cond_false (hA.ev rfl) ?_
 refine wp_skip ?_
 refine hK11 _ _ ?_
 refine wp_seq_k (fun K15 hK15 => ?_)
 refine wp_region_lit ?_
 refine seq_do hA rfl rfl rfl (m_loadS hM ByP_isS_27 rfl 0 rfl (cs := [.bool false, .slice o1 ((words x).length) c1, .slice o2 1 c2, .bool false, .slice o3 0 c3, .slice o4 1 c4]) rfl rfl) ?_
 intro a hA
 refine seq_do (v := .pointer (some ⟨g2, 0, none⟩)) hA rfl rfl rfl (does_field ByP_fld_44_0 rfl rfl) ?_
 intro a hA
 refine seq_do hA rfl rfl rfl (m_load1 hM ByP_is1_3 rfl 1 rfl rfl) ?_
 intro a hA
 refine seq_do (v := .int .i64 (((n * 8 : Nat) : Int))) hA rfl rfl rfl (does_bin rfl rfl (ar_mul ((in_i64 (by omega) (by omega)).trans (by omega)))) ?_
 intro a hA
 refine seq_call hA rfl rfl rfl (enters_func rfl rfl (fun w => by kernel_rfl)) ((show Calls Tryd.prog 72 _ _ (AnsN _ (Q6.whole false F, 0)) from (by have h9 := fieldPW_any (w := w14) (S := 0) (E := n * 8) (nm_below ha hM.bel) (lenQ_whole hx) (by omega) (by omega) hw hx hbx; rw [fieldQ_ok hw (by omega) (by omega), Nat.sub_zero, hF] at h9; exact h9))) ?_
 rintro _ w19 ⟨o18_1, o18_c1, o18_2, o18_c2, o18_3, o18_c3, o18_4, o18_c4, rfl, hn16, hb17⟩
 replace hM := hM.call hb17
 refine ⟨_, rfl, ?_⟩
 intro a hA
 refine seq_do hA rfl rfl rfl (does_move rfl) ?_
 intro a hA
 refine seq_do (v := .agg #[.bool false, .slice o18_1 ((words F).length) o18_c1, .slice o18_2 1 o18_c2, .bool false, .slice o18_3 0 o18_c3, .slice o18_4 1 o18_c4]) hA rfl rfl rfl (does_extract (vs := [.agg #[.bool false, .slice o18_1 ((words F).length) o18_c1, .slice o18_2 1 o18_c2, .bool false, .slice o18_3 0 o18_c3, .slice o18_4 1 o18_c4], .int .i64 0]) rfl rfl) ?_
 intro a hA
 refine seq_do (v := .int .i64 0) hA rfl rfl rfl (does_extract (vs := [.agg #[.bool false, .slice o18_1 ((words F).length) o18_c1, .slice o18_2 1 o18_c2, .bool false, .slice o18_3 0 o18_c3, .slice o18_4 1 o18_c4], .int .i64 0]) rfl rfl) ?_
 intro a hA
 refine s_newN (vs := [.bool false, .slice none 0 0, .slice none 0 0, .bool false, .slice none 0 0, .slice none 0 0]) (t := 27) hA hM rfl rfl rfl (fun g => .pointer (some ⟨g, 0, none⟩)) (does_alloc (z := .agg #[.bool false, .slice none 0 0, .slice none 0 0, .bool false, .slice none 0 0, .slice none 0 0]) (by kernel_rfl) rfl) (by decide) ?_
 intro g20 w21 hM hc22 a hA
 replace hn16 := nm_carry hn16 hc22
 refine s_storeN (us := [.bool false, .slice o18_1 ((words F).length) o18_c1, .slice o18_2 1 o18_c2, .bool false, .slice o18_3 0 o18_c3, .slice o18_4 1 o18_c4]) (L' := (.obj g20 (.cells #[.bool false, .slice o18_1 ((words F).length) o18_c1, .slice o18_2 1 o18_c2, .bool false, .slice o18_3 0 o18_c3, .slice o18_4 1 o18_c4] 27) :: .obj g4 (.cells #[.bool false, .slice o1 ((words x).length) c1, .slice o2 1 c2, .bool false, .slice o3 0 c3, .slice o4 1 c4] 27) :: .obj g2 (.cells #[.int .i64 (((n : Nat) : Int)), .bool false, .bool false] 44) :: [])) hA hM rfl rfl (m_store rfl rfl rfl (by kernel_rfl) hM 0 rfl rfl rfl) 0 rfl rfl rfl rfl rfl rfl ?_
 intro w23 hM hc24
 replace hn16 := nm_carry hn16 hc24
 refine seq_do hA rfl rfl rfl (does_assign rfl) ?_
 intro a hA
 refine seq_end ?_
 refine hK15 _ _ ?_
 refine wp_seq_k (fun K25 hK25 => ?_)
 refine wp_region_lit ?_
 refine seq_do (v := .pointer (some ⟨g2, 0, none⟩)) hA rfl rfl rfl (does_field ByP_fld_44_0 rfl rfl) ?_
 intro a hA
 refine seq_do hA rfl rfl rfl (m_load1 hM ByP_is1_3 rfl 2 rfl rfl) ?_
 intro a hA
 refine s_makeN (z := .int .u8 0) (sz := 1) (by_ := 1) (m := n) hA hM Tryd.underlying22 (by kernel_rfl) rfl rfl rfl rfl rfl rfl (by omega) (by omega) (.inr (noBld_cons (by simp) (noBld_cons (by simp) (noBld_cons (by simp) (noBld_quiet quietL_nil))))) ?_
 intro gx w26 hM hc27 a hA
 replace hn16 := nm_carry hn16 hc27
 rw [lbI_made n F] at hM
 refine seq_do hA rfl rfl rfl (does_assign rfl) ?_
 intro a hA
 refine seq_end ?_
 refine hK25 _ _ ?_
 refine wp_seq_k (fun K28 hK28 => ?_)
 refine wp_seq_k (fun K29 hK29 => ?_)
 refine wp_region_lit ?_
 refine seq_do (v := .pointer (some ⟨g2, 0, none⟩)) hA rfl rfl rfl (does_field ByP_fld_44_0 rfl rfl) ?_
 intro a hA
 refine seq_do hA rfl rfl rfl (m_load1 hM ByP_is1_3 rfl 3 rfl rfl) ?_
 intro a hA
 refine seq_do (v := .pointer (some ⟨g20, 0, none⟩)) hA rfl rfl rfl (does_field ByP_fld_27_0 rfl rfl) ?_
 intro a hA
 refine seq_do (v := .pointer (some ⟨g20, 1, none⟩)) hA rfl rfl rfl (does_field ByP_fld_25_1 rfl rfl) ?_
 intro a hA
 refine seq_do hA rfl rfl rfl (m_load1 hM ByP_is1_23 rfl 1 rfl rfl) ?_
 intro a hA
 refine seq_do (v := .int .i64 ((((words F).length : Nat) : Int))) hA rfl rfl rfl (does_len Tryd.underlying23 rfl) ?_
 intro a hA
 refine seq_do (v := .int .i64 ((((words F).length * 4 : Nat) : Int))) hA rfl rfl rfl (does_bin rfl rfl (ar_mul ((in_i64 (by omega) (by omega)).trans (by omega)))) ?_
 intro a hA
 refine seq_do (v := .int .i64 (((min n ((words F).length * 4) : Nat) : Int))) hA rfl rfl rfl (does_builtin rfl min_nat) ?_
 intro a hA
 refine seq_do hA rfl rfl rfl (does_move rfl) ?_
 intro a hA
 refine seq_end ?_
 refine hK29 _ _ ?_
 refine wp_block ?_
 refine wp_loop_n (fun m_ a w1 => ∃ (i : Nat), m_ = n - i ∧ (i ≤ min n ((words F).length * 4) ∧ Rd w1 o18_1 (words F)) ∧ Sl a 75 [(0, .agg #[.int .i64 (((n : Nat) : Int)), .bool false, .bool false]), (1, .agg #[.bool false, .slice o1 ((words x).length) c1, .slice o2 1 c2, .bool false, .slice o3 0 c3, .slice o4 1 c4]), (2, .pointer (some ⟨g2, 0, none⟩)), (3, .pointer (some ⟨g4, 0, none⟩)), (4, .slice none 0 0), (5, .int .i64 0), (6, .int .i64 (((ln : Nat) : Int))), (7, .int .i64 0), (8, .pointer (some ⟨g20, 0, none⟩)), (9, .int .i64 0), (10, .slice (some ⟨gx, 0, none⟩) n n), (12, .tuple #[.int .i64 (((ln : Nat) : Int)), .int .i64 0]), (13, .agg #[.bool false, .slice o1 ((words x).length) c1, .slice o2 1 c2, .bool false, .slice o3 0 c3, .slice o4 1 c4]), (14, .tuple #[.int .i64 (((ln : Nat) : Int)), .int .i64 0]), (15, .int .i64 (((ln : Nat) : Int))), (16, .int .i64 0), (17, .int .i64 0), (18, .bool false), (20, .pointer (some ⟨g4, 0, none⟩)), (21, .pointer (some ⟨g4, 0, none⟩)), (22, .bool false), (23, .bool false), (27, .bool false), (28, .bool false), (29, .int .i64 (((ln : Nat) : Int))), (30, .agg #[.int .i64 (((n : Nat) : Int)), .bool false, .bool false]), (31, .int .i64 (((n * 8 : Nat) : Int))), (32, .bool false), (33, .bool false), (34, .tuple #[.agg #[.bool false, .slice o18_1 ((words F).length) o18_c1, .slice o18_2 1 o18_c2, .bool false, .slice o18_3 0 o18_c3, .slice o18_4 1 o18_c4], .int .i64 0]), (35, .agg #[.bool false, .slice o1 ((words x).length) c1, .slice o2 1 c2, .bool false, .slice o3 0 c3, .slice o4 1 c4]), (36, .pointer (some ⟨g2, 0, none⟩)), (37, .int .i64 (((n : Nat) : Int))), (38, .int .i64 (((n * 8 : Nat) : Int))), (39, .tuple #[.agg #[.bool false, .slice o18_1 ((words F).length) o18_c1, .slice o18_2 1 o18_c2, .bool false, .slice o18_3 0 o18_c3, .slice o18_4 1 o18_c4], .int .i64 0]), (40, .agg #[.bool false, .slice o18_1 ((words F).length) o18_c1, .slice o18_2 1 o18_c2, .bool false, .slice o18_3 0 o18_c3, .slice o18_4 1 o18_c4]), (41, .int .i64 0), (42, .pointer (some ⟨g2, 0, none⟩)), (43, .int .i64 (((n : Nat) : Int))), (44, .slice (some ⟨gx, 0, none⟩) n n), (45, .pointer (some ⟨g2, 0, none⟩)), (46, .int .i64 (((n : Nat) : Int))), (47, .pointer (some ⟨g20, 0, none⟩)), (48, .pointer (some ⟨g20, 1, none⟩)), (49, .slice o18_1 ((words F).length) o18_c1), (50, .int .i64 ((((words F).length : Nat) : Int))), (51, .int .i64 ((((words F).length * 4 : Nat) : Int))), (52, .int .i64 (((min n ((words F).length * 4) : Nat) : Int))), (53, .int .i64 (((i : Nat) : Int)))] ∧ Mg w w1 (.row BY 1 (.slice (some ⟨gx, 0, none⟩) n n) n ((Lib.byteCells (lbI n F i))) :: .obj g20 (.cells #[.bool false, .slice o18_1 ((words F).length) o18_c1, .slice o18_2 1 o18_c2, .bool false, .slice o18_3 0 o18_c3, .slice o18_4 1 o18_c4] 27) :: .obj g4 (.cells #[.bool false, .slice o1 ((words x).length) c1, .slice o2 1 c2, .bool false, .slice o3 0 c3, .slice o4 1 c4] 27) :: .obj g2 (.cells #[.int .i64 (((n : Nat) : Int)), .bool false, .bool false] 44) :: [])) _ ⟨0, rfl, ⟨Nat.zero_le _, hn16.s1.rd⟩, hA.keep _ ⟨rfl, rfl, rfl, rfl, rfl, rfl, rfl, rfl, rfl, rfl, rfl, rfl, rfl, rfl, rfl, rfl, rfl, rfl, rfl, rfl, rfl, rfl, rfl, rfl, rfl, rfl, rfl, rfl, rfl, rfl, rfl, rfl, rfl, rfl, rfl, rfl, rfl, rfl, rfl, rfl, rfl, rfl, rfl, rfl, rfl, rfl, rfl, rfl, rfl, trivial⟩, hM⟩ ?_
 clear hM hA
 rintro m_ a w30 ⟨i, rfl, hinv32, hA, hM⟩ K31 hK31
 obtain ⟨hi9, hrdF⟩ := hinv32
 refine wp_seq_k (fun K33 hK33 => ?_)
 refine wp_region_lit ?_
 rcases Bool.eq_false_or_eq_true (decide (((i : Nat) : Int) < ((min n ((words F).length * 4) : Nat) : Int))) with hb34 | hb34
 · have hb34' := of_decide_eq_true hb34
   refine seq_do (v := .bool true) hA rfl rfl rfl (does_bin rfl rfl (fun w => (bin_lss w).trans (by rw [hb34]))) ?_
   intro a hA
   refine seq_end ?_
   refine hK33 _ _ ?_
   refine wp_seq_k (fun K35 hK35 => ?_)
   refine wp_cond_true (hA.ev rfl) ?_
   refine wp_skip ?_
   refine hK35 _ _ ?_
   refine wp_seq_k (fun K36 hK36 => ?_)
   refine wp_block ?_
   refine wp_seq_k (fun K37 hK37 => ?_)
   refine wp_region_lit ?_
   refine seq_do hA rfl rfl rfl (does_move rfl) ?_
   intro a hA
   refine seq_do hA rfl rfl rfl (does_assign rfl) ?_
   intro a hA
   refine seq_end ?_
   refine hK37 _ _ ?_
   refine wp_region_lit ?_
   refine seq_do hA rfl rfl rfl (does_move rfl) ?_
   intro a hA
   refine seq_do hA rfl rfl rfl (does_move rfl) ?_
   intro a hA
   refine seq_do (v := .pointer (some ⟨g20, 0, none⟩)) hA rfl rfl rfl (does_field ByP_fld_27_0 rfl rfl) ?_
   intro a hA
   refine seq_do (v := .pointer (some ⟨g20, 1, none⟩)) hA rfl rfl rfl (does_field ByP_fld_25_1 rfl rfl) ?_
   intro a hA
   refine seq_do hA rfl rfl rfl (m_load1 hM ByP_is1_23 rfl 1 rfl rfl) ?_
   intro a hA
   refine seq_do hA rfl rfl rfl (does_move rfl) ?_
   intro a hA
   refine seq_do (v := .int .i64 (((i / 4 : Nat) : Int))) hA rfl rfl rfl (does_bin rfl rfl (ar_quo (by decide) ((congrArg IntKind.i64.wrap (Int.tdiv_eq_ediv_of_nonneg (by omega))).trans ((in_i64 (by omega) (by omega)).trans (by omega))))) ?_
   intro a hA
   have hj9 : i / 4 < (words F).length := by omega
   obtain ⟨bx38, ox39, hx40⟩ := hrdF.addr hj9
   refine seq_do (v := .pointer (some ⟨bx38, ox39 + i / 4, none⟩)) hA rfl rfl rfl (does_indexRow (k := i / 4) Tryd.underlying23 (by kernel_rfl) rfl rfl rfl hx40 hj9) ?_
   intro a hA
   refine seq_do (v := .int .u32 ((((words F).getD (i / 4) 0 : Nat) : Int))) hA rfl rfl rfl (m_loadW (hrdF.at_ hx40 hj9) ByP_is1_49 rfl) ?_
   intro a hA
   refine seq_do hA rfl rfl rfl (does_move rfl) ?_
   intro a hA
   refine seq_do (v := .int .i64 (((i % 4 : Nat) : Int))) hA rfl rfl rfl (does_bin rfl rfl (ar_rem (by decide) ((Int.tmod_eq_emod_of_nonneg (by omega)).trans (by omega)))) ?_
   intro a hA
   refine seq_do (v := .int .i64 (((i % 4 * 8 : Nat) : Int))) hA rfl rfl rfl (does_bin rfl rfl (ar_mul ((in_i64 (by omega) (by omega)).trans (by omega)))) ?_
   intro a hA
   refine seq_do (v := .int .u32 ((((words F).getD (i / 4) 0 / 2 ^ (i % 4 * 8) : Nat) : Int))) hA rfl rfl rfl (does_bin rfl rfl (ar_shr (n := i % 4 * 8) rfl (Nat.ble_eq_true_of_le (show i % 4 * 8 ≤ 32 by omega)) (by rw [Int.natCast_ediv, Int.natCast_pow]; rfl))) ?_
   intro a hA
   refine seq_do (v := .int .u8 (((F / 256 ^ i % 256 : Nat) : Int))) hA rfl rfl rfl (does_convert rfl (ar_conv Tryd.underlying49 Tryd.underlying5 (by rw [← wd_byte]; exact wrap8 _))) ?_
   intro a hA
   refine seq_do (v := .pointer (some ⟨gx, (i) * 1, none⟩)) hA rfl rfl rfl (does_indexE Tryd.underlying22 (by kernel_rfl) rfl rfl rfl (show i < n by omega)) ?_
   intro a hA
   refine s_storeEN (c := .int .u8 (((F / 256 ^ i % 256 : Nat) : Int))) (L' := (.row BY 1 (.slice (some ⟨gx, 0, none⟩) n n) n ((over (Lib.byteCells (lbI n F i)) ((i) * 1) [.int .u8 (((F / 256 ^ i % 256 : Nat) : Int))])) :: .obj g20 (.cells #[.bool false, .slice o18_1 ((words F).length) o18_c1, .slice o18_2 1 o18_c2, .bool false, .slice o18_3 0 o18_c3, .slice o18_4 1 o18_c4] 27) :: .obj g4 (.cells #[.bool false, .slice o1 ((words x).length) c1, .slice o2 1 c2, .bool false, .slice o3 0 c3, .slice o4 1 c4] 27) :: .obj g2 (.cells #[.int .i64 (((n : Nat) : Int)), .bool false, .bool false] 44) :: [])) hA hM rfl rfl (m_storeE rfl rfl rfl (by kernel_rfl) hM 0 rfl (show (i) * 1 + 1 ≤ n * 1 by omega) rfl) 0 rfl (cells_get (l := lbI n F i) (i := i) (by rw [lbI_len]; omega)) rfl rfl ?_
   intro w41 hM hc42
   replace hrdF := hc42 _ _ hrdF
   replace hM : Mg w w41 (.row BY 1 (.slice (some ⟨gx, 0, none⟩) n n) n ((Lib.byteCells (lbI n F (i + 1)))) :: .obj g20 (.cells #[.bool false, .slice o18_1 ((words F).length) o18_c1, .slice o18_2 1 o18_c2, .bool false, .slice o18_3 0 o18_c3, .slice o18_4 1 o18_c4] 27) :: .obj g4 (.cells #[.bool false, .slice o1 ((words x).length) c1, .slice o2 1 c2, .bool false, .slice o3 0 c3, .slice o4 1 c4] 27) :: .obj g2 (.cells #[.int .i64 (((n : Nat) : Int)), .bool false, .bool false] 44) :: []) := by
     have h9 := hM
     rw [lbI_step (by omega)] at h9
     exact h9
   refine seq_end ?_
   refine hK36 _ _ ?_
   refine wp_region_lit ?_
   refine seq_do (v := .int .i64 (((i + 1 : Nat) : Int))) hA rfl rfl rfl (does_bin rfl rfl (ar_add ((in_i64 (by omega) (by omega)).trans (by omega)))) ?_
   intro a hA
   refine seq_do hA rfl rfl rfl (does_move rfl) ?_
   intro a hA
   refine seq_end ?_
   refine hK31 _ _ _ (by omega) ⟨i + 1, rfl, ⟨by omega, hrdF⟩, hA.keep _ ⟨rfl, rfl, rfl, rfl, rfl, rfl, rfl, rfl, rfl, rfl, rfl, rfl, rfl, rfl, rfl, rfl, rfl, rfl, rfl, rfl, rfl, rfl, rfl, rfl, rfl, rfl, rfl, rfl, rfl, rfl, rfl, rfl, rfl, rfl, rfl, rfl, rfl, rfl, rfl, rfl, rfl, rfl, rfl, rfl, rfl, rfl, rfl, rfl, rfl, trivial⟩, hM⟩
 · have hb34' := of_decide_eq_false hb34
   refine seq_do (v := .bool false) hA rfl rfl rfl (does_bin rfl rfl (fun w => (bin_lss w).trans (by rw [hb34]))) ?_
   intro a hA
   refine seq_end ?_
   refine hK33 _ _ ?_
   refine wp_seq_k (fun K43 hK43 => ?_)
   refine wp_cond_false (hA.ev rfl) ?_
   refine wp_exit ?_
   refine hK28 _ _ ?_
   refine wp_seq_k (fun K44 hK44 => ?_)
   refine wp_region_lit ?_
   refine seq_do hA rfl rfl rfl (m_loadS hM ByP_isS_44 rfl 3 rfl (cs := [.int .i64 (((n : Nat) : Int)), .bool false, .bool false]) rfl rfl) ?_
   intro a hA
   refine seq_do hA rfl rfl rfl (does_move rfl) ?_
   intro a hA
   have hi8 : i = min n ((words F).length * 4) := by omega
   have hd8 := lbI_done hi8
   replace hM : Mg w w30 (.row BY 1 (.slice (some ⟨gx, 0, none⟩) n n) n ((Lib.byteCells (leB n F))) :: .obj g20 (.cells #[.bool false, .slice o18_1 ((words F).length) o18_c1, .slice o18_2 1 o18_c2, .bool false, .slice o18_3 0 o18_c3, .slice o18_4 1 o18_c4] 27) :: .obj g4 (.cells #[.bool false, .slice o1 ((words x).length) c1, .slice o2 1 c2, .bool false, .slice o3 0 c3, .slice o4 1 c4] 27) :: .obj g2 (.cells #[.int .i64 (((n : Nat) : Int)), .bool false, .bool false] 44) :: []) := by
     have h9 := hM
     rw [hd8] at h9
     exact h9
   refine seq_call hA rfl rfl rfl (enters_func rfl rfl (fun w => by kernel_rfl)) ((by have h9 := reordered_false (w := w30) (sg := false) (cp := n) (rb_row (bs := leB n F) hM 0 rfl).1 (by rw [leB_len]; omega); rw [leB_len] at h9; exact h9)) ?_
   rintro _ w47 ⟨g45, rfl, hM46⟩
   replace hM : Mg w w47 (.row BY 1 (.slice (some ⟨g45, 0, none⟩) n n) n ((Lib.byteCells (lowB false (leB n F)))) :: .row BY 1 (.slice (some ⟨gx, 0, none⟩) n n) n ((Lib.byteCells (leB n F))) :: .obj g20 (.cells #[.bool false, .slice o18_1 ((words F).length) o18_c1, .slice o18_2 1 o18_c2, .bool false, .slice o18_3 0 o18_c3, .slice o18_4 1 o18_c4] 27) :: .obj g4 (.cells #[.bool false, .slice o1 ((words x).length) c1, .slice o2 1 c2, .bool false, .slice o3 0 c3, .slice o4 1 c4] 27) :: .obj g2 (.cells #[.int .i64 (((n : Nat) : Int)), .bool false, .bool false] 44) :: []) := (hM.both hM46 (noBld_cons (by simp) (noBld_cons (by simp) (noBld_cons (by simp) (noBld_cons (by simp) (noBld_quiet quietL_nil))))) (noBld_cons (by simp) (noBld_quiet quietL_nil)))
   refine ⟨_, rfl, ?_⟩
   intro a hA
   refine seq_do hA rfl rfl rfl (does_assign rfl) ?_
   intro a hA
   refine seq_do hA rfl rfl rfl (does_assign rfl) ?_
   intro a hA
   refine seq_end ?_
   refine hK44 _ _ ?_
   refine wp_ret ?_
   refine hret _ _ ?_
   refine ends (v := .tuple #[.slice (some ⟨g45, 0, none⟩) n n, .int .i64 0]) hA rfl (.cons (res_tmp rfl) (.cons (res_tmp rfl) .nil)) rfl ?_
   exact ⟨g45, rfl, hM.sub (.cons_cons _ (.cons _ (.cons _ (.cons _ (.cons _ (.refl _))))))⟩
end Go.Proofs.YtbajcflbimmnhaaDoor.G
namespace Go.Proofs.YtbajcflbimmnhaaDoor.G
open Go.RowKit
set_option linter.unusedVariables false
set_option linter.unusedSimpArgs false
set_option maxRecDepth 100000
theorem ByQ_is1_4 : Is1 Tryd.prog 4 := ⟨⟨_, Tryd.underlying4, rfl⟩, by kernel_rfl⟩
theorem ByQ_fld_25_0 : FieldAt Tryd.prog 25 0 0 := ⟨_, _, Tryd.underlying25, rfl, rfl, by kernel_rfl⟩
theorem ByQ_fld_27_0 : FieldAt Tryd.prog 27 0 0 := ⟨_, _, Tryd.underlying27, rfl, rfl, by kernel_rfl⟩
theorem ByQ_fld_44_2 : FieldAt Tryd.prog 44 2 2 := ⟨_, _, Tryd.underlying44, rfl, rfl, by kernel_rfl⟩
theorem ByQ_isS_27 : IsS Tryd.prog 27 6 := ⟨⟨_, Tryd.underlying27⟩, by kernel_rfl⟩
theorem ByQ_isS_44 : IsS Tryd.prog 44 3 := ⟨⟨_, Tryd.underlying44⟩, by kernel_rfl⟩
def roomN (n : Nat) (sg : Bool) : Nat := if sg = true then n * 8 - 1 else n * 8
theorem laid_all {w : World} {b : Bool} {x n : Nat} {o1 o2 o3 o4 : Option Addr} {c1 c2 c3 c4 : Nat} (ha : Nm w (Q6.whole b x) o1 c1 o2 c2 o3 c3 o4 c4) (hx : (words x).length ≤ 512) (hbx : b.toNat ≤ x) (h1 : 1 ≤ n) (h64 : n ≤ 64) (bg sg : Bool) {F ln : Nat} (hF : fld b (x - b.toNat) 0 (n * 8) = F) (hln : bl (x - b.toNat) = ln) (hroom : ln ≤ roomN n sg) (hneg : b = true → sg = true) : Calls Tryd.prog 42 #[.agg #[.int .i64 ((n : Nat) : Int), .bool bg, .bool sg], numV (Q6.whole b x) o1 c1 o2 c2 o3 c3 o4 c4] w fun e w' => ∃ g, e = .returned (.tuple #[.slice (some ⟨g, 0, none⟩) n n, .int .i64 0]) ∧ Mg w w' [.row BY 1 (.slice (some ⟨g, 0, none⟩) n n) n (Lib.byteCells (lowB bg (leB n F)))] := by
  cases sg
  · have hb0 : b = false := by cases b; rfl; exact absurd (hneg rfl) (by decide)
    cases bg
    · exact laid_false_false ha hx hbx h1 h64 hF hln hroom hb0
    · exact laid_true_false ha hx hbx h1 h64 hF hln hroom hb0
  · cases bg
    · exact laid_false_true ha hx hbx h1 h64 hF hln hroom
    · exact laid_true_true ha hx hbx h1 h64 hF hln hroom
theorem laid_err {w : World} {q : Q6} {n : Nat} {bg sg : Bool} {o1 o2 o3 o4 : Option Addr} {c1 c2 c3 c4 : Nat} (ha : Nm w q o1 c1 o2 c2 o3 c3 o4 c4) (hl : LenQ q) (hw : (want1 q != 0) = true) : Calls Tryd.prog 42 #[.agg #[.int .i64 ((n : Nat) : Int), .bool bg, .bool sg], numV q o1 c1 o2 c2 o3 c3 o4 c4] w fun e w' => e = .returned (.tuple #[.slice none 0 0, .int .i64 (want1 q)]) ∧ Below w.heap.size w w' := by
 have e9 : (lengthQ q).2 = want1 q := by unfold lengthQ; rw [if_neg (bne_iff_ne.1 hw)]
 have hM : Mg w w ([]) := Mg.start w
 refine walk_of (l := [(0, .agg #[.int .i64 (((n : Nat) : Int)), .bool bg, .bool sg]), (1, .agg #[.bool q.b1, .slice o1 q.t1.length c1, .slice o2 q.q1.length c2, .bool q.b2, .slice o3 q.t2.length c3, .slice o4 q.q2.length c4])]) Tryd.func42 rfl Tryd.ntmps42 rfl rfl ?_
 intro Q hret hnorm hP a hA
 refine wp_seq_k (fun K1 hK1 => ?_)
 refine wp_region_lit ?_
 refine s_new (vs := [.int .i64 (((n : Nat) : Int)), .bool bg, .bool sg]) (t := 44) hA hM rfl rfl rfl (fun g => .pointer (some ⟨g, 0, none⟩)) (does_box rfl rfl) (by decide) ?_
 intro g2 w3 hM a hA
 refine s_new (vs := [.bool q.b1, .slice o1 q.t1.length c1, .slice o2 q.q1.length c2, .bool q.b2, .slice o3 q.t2.length c3, .slice o4 q.q2.length c4]) (t := 27) hA hM rfl rfl rfl (fun g => .pointer (some ⟨g, 0, none⟩)) (does_box rfl rfl) (by decide) ?_
 intro g4 w5 hM a hA
 refine seq_do hA rfl rfl rfl (does_assign rfl) ?_
 intro a hA
 refine seq_do hA rfl rfl rfl (does_assign rfl) ?_
 intro a hA
 refine seq_end ?_
 refine hK1 _ _ ?_
 refine wp_seq_k (fun K6 hK6 => ?_)
 refine wp_region_lit ?_
 refine seq_do hA rfl rfl rfl (m_loadS hM ByQ_isS_27 rfl 0 rfl (cs := [.bool q.b1, .slice o1 q.t1.length c1, .slice o2 q.q1.length c2, .bool q.b2, .slice o3 q.t2.length c3, .slice o4 q.q2.length c4]) rfl rfl) ?_
 intro a hA
 refine seq_call hA rfl rfl rfl (enters_func rfl rfl (fun w => by kernel_rfl)) (lengthPE_any (nm_below ha hM.bel) hl hw) ?_
 rintro _ w8 ⟨rfl, hb7⟩
 replace hM := hM.call hb7
 refine ⟨_, rfl, ?_⟩
 intro a hA
 refine seq_do hA rfl rfl rfl (does_move rfl) ?_
 intro a hA
 refine seq_do (v := .int .i64 ((lengthQ q).1)) hA rfl rfl rfl (does_extract (vs := [.int .i64 ((lengthQ q).1), .int .i64 ((lengthQ q).2)]) rfl rfl) ?_
 intro a hA
 refine seq_do (v := .int .i64 ((lengthQ q).2)) hA rfl rfl rfl (does_extract (vs := [.int .i64 ((lengthQ q).1), .int .i64 ((lengthQ q).2)]) rfl rfl) ?_
 intro a hA
 refine seq_do hA rfl rfl rfl (does_assign rfl) ?_
 intro a hA
 refine seq_do hA rfl rfl rfl (does_assign rfl) ?_
 intro a hA
 refine seq_end ?_
 refine hK6 _ _ ?_
 refine wp_seq_k (fun K9 hK9 => ?_)
 refine wp_seq_k (fun K10 hK10 => ?_)
 refine wp_region_lit ?_
 refine seq_do hA rfl rfl rfl (does_move rfl) ?_
 intro a hA
 refine seq_do (v := .bool true) hA rfl rfl rfl (does_bin rfl rfl (fun w => (bin_neq w).trans (by rw [show (((lengthQ q).2 != 0)) = true from (by rw [e9]; exact hw)]))) ?_
 intro a hA
 refine seq_end ?_
 refine hK10 _ _ ?_
 refine wp_cond_true (hA.ev rfl) ?_
 refine wp_seq_k (fun K11 hK11 => ?_)
 refine wp_region_lit ?_
 refine seq_do hA rfl rfl rfl (does_move rfl) ?_
 intro a hA
 refine seq_do hA rfl rfl rfl (does_assign rfl) ?_
 intro a hA
 refine seq_do hA rfl rfl rfl (does_assign rfl) ?_
 intro a hA
 refine seq_end ?_
 refine hK11 _ _ ?_
 refine wp_ret ?_
 refine hret _ _ ?_
 refine ends (v := .tuple #[.slice none 0 0, .int .i64 ((lengthQ q).2)]) hA rfl (.cons (res_tmp rfl) (.cons (res_tmp rfl) .nil)) rfl ?_
 rw [← e9]
 exact ⟨rfl, hM.bel⟩
theorem laid_large_true {w : World} {b : Bool} {x n : Nat} {o1 o2 o3 o4 : Option Addr} {c1 c2 c3 c4 : Nat} (ha : Nm w (Q6.whole b x) o1 c1 o2 c2 o3 c3 o4 c4) (hx : (words x).length ≤ 512) (hbx : b.toNat ≤ x) (h1 : 1 ≤ n) (h64 : n ≤ 64) {bg : Bool} {ln : Nat} (hln : bl (x - b.toNat) = ln) (hroom : n * 8 - 1 < ln) : Calls Tryd.prog 42 #[.agg #[.int .i64 ((n : Nat) : Int), .bool bg, .bool true], numV (Q6.whole b x) o1 c1 o2 c2 o3 c3 o4 c4] w fun e w' => e = .returned (.tuple #[.slice none 0 0, .int .i64 4]) ∧ Below w.heap.size w w' := by
 have hw := want_ok hx hbx
 have hM : Mg w w ([]) := Mg.start w
 refine walk_of (l := [(0, .agg #[.int .i64 (((n : Nat) : Int)), .bool bg, .bool true]), (1, .agg #[.bool b, .slice o1 ((words x).length) c1, .slice o2 1 c2, .bool false, .slice o3 0 c3, .slice o4 1 c4])]) Tryd.func42 rfl Tryd.ntmps42 rfl rfl ?_
 intro Q hret hnorm hP a hA
 refine wp_seq_k (fun K1 hK1 => ?_)
 refine wp_region_lit ?_
 refine s_new (vs := [.int .i64 (((n : Nat) : Int)), .bool bg, .bool true]) (t := 44) hA hM rfl rfl rfl (fun g => .pointer (some ⟨g, 0, none⟩)) (does_box rfl rfl) (by decide) ?_
 intro g2 w3 hM a hA
 refine s_new (vs := [.bool b, .slice o1 ((words x).length) c1, .slice o2 1 c2, .bool false, .slice o3 0 c3, .slice o4 1 c4]) (t := 27) hA hM rfl rfl rfl (fun g => .pointer (some ⟨g, 0, none⟩)) (does_box rfl rfl) (by decide) ?_
 intro g4 w5 hM a hA
 refine seq_do hA rfl rfl rfl (does_assign rfl) ?_
 intro a hA
 refine seq_do hA rfl rfl rfl (does_assign rfl) ?_
 intro a hA
 refine seq_end ?_
 refine hK1 _ _ ?_
 refine wp_seq_k (fun K6 hK6 => ?_)
 refine wp_region_lit ?_
 refine seq_do hA rfl rfl rfl (m_loadS hM ByQ_isS_27 rfl 0 rfl (cs := [.bool b, .slice o1 ((words x).length) c1, .slice o2 1 c2, .bool false, .slice o3 0 c3, .slice o4 1 c4]) rfl rfl) ?_
 intro a hA
 refine seq_call hA rfl rfl rfl (enters_func rfl rfl (fun w => by kernel_rfl)) ((by have h9 := lengthPW_any (w := w5) (nm_below ha hM.bel) (lenQ_whole hx) hw hx hbx; rw [lengthQ_whole hw, hln] at h9; exact h9)) ?_
 rintro _ w8 ⟨rfl, hb7⟩
 replace hM := hM.call hb7
 refine ⟨_, rfl, ?_⟩
 intro a hA
 refine seq_do hA rfl rfl rfl (does_move rfl) ?_
 intro a hA
 refine seq_do (v := .int .i64 (((ln : Nat) : Int))) hA rfl rfl rfl (does_extract (vs := [.int .i64 (((ln : Nat) : Int)), .int .i64 0]) rfl rfl) ?_
 intro a hA
 refine seq_do (v := .int .i64 0) hA rfl rfl rfl (does_extract (vs := [.int .i64 (((ln : Nat) : Int)), .int .i64 0]) rfl rfl) ?_
 intro a hA
 refine seq_do hA rfl rfl rfl (does_assign rfl) ?_
 intro a hA
 refine seq_do hA rfl rfl rfl (does_assign rfl) ?_
 intro a hA
 refine seq_end ?_
 refine hK6 _ _ ?_
 refine wp_seq_k (fun K9 hK9 => ?_)
 refine wp_seq_k (fun K10 hK10 => ?_)
 refine wp_region_lit ?_
 refine seq_do hA rfl rfl rfl (does_move rfl) ?_
 intro a hA
 refine seq_do (v := .bool false) hA rfl rfl rfl (does_bin rfl rfl (fun w => by kernel_rfl)) ?_
 intro a hA
 refine seq_end ?_
 refine hK10 _ _ ?_
 refine wp_cond_false (hA.ev rfl) ?_
 refine wp_skip ?_
 refine hK9 _ _ ?_
 refine wp_seq_k (fun K11 hK11 => ?_)
 refine wp_seq_k (fun K12 hK12 => ?_)
 refine wp_region_lit ?_
 refine seq_do (v := .pointer (some ⟨g4, 0, none⟩)) hA rfl rfl rfl (does_field ByQ_fld_27_0 rfl rfl) ?_
 intro a hA
 refine seq_do (v := .pointer (some ⟨g4, 0, none⟩)) hA rfl rfl rfl (does_field ByQ_fld_25_0 rfl rfl) ?_
 intro a hA
 refine seq_do hA rfl rfl rfl (m_load1 hM ByQ_is1_4 rfl 0 rfl rfl) ?_
 intro a hA
 refine seq_do hA rfl rfl rfl (does_move rfl) ?_
 intro a hA
 rcases b with _ | _
 · refine seq_skip hA rfl rfl rfl ?_
   intro a hA
   refine seq_skip hA rfl rfl rfl ?_
   intro a hA
   refine seq_skip hA rfl rfl rfl ?_
   intro a hA
   refine seq_do (v := .bool false) hA rfl rfl rfl (does_pick rfl rfl rfl rfl) ?_
   intro a hA
   refine seq_do hA rfl rfl rfl (does_move rfl) ?_
   intro a hA
   refine seq_do hA rfl rfl rfl (does_move rfl) ?_
   intro a hA
   refine seq_do hA rfl rfl rfl (m_loadS hM ByQ_isS_44 rfl 1 rfl (cs := [.int .i64 (((n : Nat) : Int)), .bool bg, .bool true]) rfl rfl) ?_
   intro a hA
   refine seq_call hA rfl rfl rfl (enters_func rfl rfl (fun w => by kernel_rfl)) (room_true h1 h64) ?_
   rintro _ w14 ⟨rfl, hb13⟩
   replace hM := hM.call hb13
   refine ⟨_, rfl, ?_⟩
   intro a hA
   refine seq_do (v := .bool true) hA rfl rfl rfl (does_bin rfl rfl (fun w => (bin_gtr w).trans (by rw [show (decide (((n * 8 - 1 : Nat) : Int) < ((ln : Nat) : Int))) = true from (decide_eq_true (by first | omega | (rcases hroom with h9 | h9; omega; cases h9)))]))) ?_
   intro a hA
   refine seq_do (v := .bool true) hA rfl rfl rfl (does_pick rfl rfl rfl rfl) ?_
   intro a hA
   refine seq_end ?_
   refine hK12 _ _ ?_
   refine wp_cond_true (hA.ev rfl) ?_
   refine wp_seq_k (fun K15 hK15 => ?_)
   refine wp_region_lit ?_
   refine seq_do hA rfl rfl rfl (does_assign rfl) ?_
   intro a hA
   refine seq_do hA rfl rfl rfl (does_assign rfl) ?_
   intro a hA
   refine seq_end ?_
   refine hK15 _ _ ?_
   refine wp_ret ?_
   refine hret _ _ ?_
   refine ends (v := .tuple #[.slice none 0 0, .int .i64 4]) hA rfl (.cons (res_tmp rfl) (.cons (res_tmp rfl) .nil)) rfl ?_
   exact ⟨rfl, hM.bel⟩
 · refine seq_do (v := .pointer (some ⟨g2, 2, none⟩)) hA rfl rfl rfl (does_field ByQ_fld_44_2 rfl rfl) ?_
   intro a hA
   refine seq_do hA rfl rfl rfl (m_load1 hM ByQ_is1_4 rfl 1 rfl rfl) ?_
   intro a hA
   refine seq_do (v := .bool false) hA rfl rfl rfl (does_un rfl un_not) ?_
   intro a hA
   refine seq_do (v := .bool false) hA rfl rfl rfl (does_pick rfl rfl rfl rfl) ?_
   intro a hA
   refine seq_do hA rfl rfl rfl (does_move rfl) ?_
   intro a hA
   refine seq_do hA rfl rfl rfl (does_move rfl) ?_
   intro a hA
   refine seq_do hA rfl rfl rfl (m_loadS hM ByQ_isS_44 rfl 1 rfl (cs := [.int .i64 (((n : Nat) : Int)), .bool bg, .bool true]) rfl rfl) ?_
   intro a hA
   refine seq_call hA rfl rfl rfl (enters_func rfl rfl (fun w => by kernel_rfl)) (room_true h1 h64) ?_
   rintro _ w17 ⟨rfl, hb16⟩
   replace hM := hM.call hb16
   refine ⟨_, rfl, ?_⟩
   intro a hA
   refine seq_do (v := .bool true) hA rfl rfl rfl (does_bin rfl rfl (fun w => (bin_gtr w).trans (by rw [show (decide (((n * 8 - 1 : Nat) : Int) < ((ln : Nat) : Int))) = true from (decide_eq_true (by first | omega | (rcases hroom with h9 | h9; omega; cases h9)))]))) ?_
   intro a hA
   refine seq_do (v := .bool true) hA rfl rfl rfl (does_pick rfl rfl rfl rfl) ?_
   intro a hA
   refine seq_end ?_
   refine hK12 _ _ ?_
   refine wp_cond_true (hA.ev rfl) ?_
   refine wp_seq_k (fun K18 hK18 => ?_)
   refine wp_region_lit ?_
   refine seq_do hA rfl rfl rfl (does_assign rfl) ?_
   intro a hA
   refine seq_do hA rfl rfl rfl (does_assign rfl) ?_
   intro a hA
   refine seq_end ?_
   refine hK18 _ _ ?_
   refine wp_ret ?_
   refine hret _ _ ?_
   refine ends (v := .tuple #[.slice none 0 0, .int .i64 4]) hA rfl (.cons (res_tmp rfl) (.cons (res_tmp rfl) .nil)) rfl ?_
   exact ⟨rfl, hM.bel⟩
theorem laid_large_false {w : World} {b : Bool} {x n : Nat} {o1 o2 o3 o4 : Option Addr} {c1 c2 c3 c4 : Nat} (ha : Nm w (Q6.whole b x) o1 c1 o2 c2 o3 c3 o4 c4) (hx : (words x).length ≤ 512) (hbx : b.toNat ≤ x) (h1 : 1 ≤ n) (h64 : n ≤ 64) {bg : Bool} {ln : Nat} (hln : bl (x - b.toNat) = ln) (hroom : n * 8 < ln ∨ b = true) : Calls Tryd.prog 42 #[.agg #[.int .i64 ((n : Nat) : Int), .bool bg, .bool false], numV (Q6.whole b x) o1 c1 o2 c2 o3 c3 o4 c4] w fun e w' => e = .returned (.tuple #[.slice none 0 0, .int .i64 4]) ∧ Below w.heap.size w w' := by
 have hw := want_ok hx hbx
 have hM : Mg w w ([]) := Mg.start w
 refine walk_of (l := [(0, .agg #[.int .i64 (((n : Nat) : Int)), .bool bg, .bool false]), (1, .agg #[.bool b, .slice o1 ((words x).length) c1, .slice o2 1 c2, .bool false, .slice o3 0 c3, .slice o4 1 c4])]) Tryd.func42 rfl Tryd.ntmps42 rfl rfl ?_
 intro Q hret hnorm hP a hA
 refine wp_seq_k (fun K1 hK1 => ?_)
 refine wp_region_lit ?_
 refine s_new (vs := [.int .i64 (((n : Nat) : Int)), .bool bg, .bool false]) (t := 44) hA hM rfl rfl rfl (fun g => .pointer (some ⟨g, 0, none⟩)) (does_box rfl rfl) (by decide) ?_
 intro g2 w3 hM a hA
 refine s_new (vs := [.bool b, .slice o1 ((words x).length) c1, .slice o2 1 c2, .bool false, .slice o3 0 c3, .slice o4 1 c4]) (t := 27) hA hM rfl rfl rfl (fun g => .pointer (some ⟨g, 0, none⟩)) (does_box rfl rfl) (by decide) ?_
 intro g4 w5 hM a hA
 refine seq_do hA rfl rfl rfl (does_assign rfl) ?_
 intro a hA
 refine seq_do hA rfl rfl rfl (does_assign rfl) ?_
 intro a hA
 refine seq_end ?_
 refine hK1 _ _ ?_
 refine wp_seq_k (fun K6 hK6 => ?_)
 refine wp_region_lit ?_
 refine seq_do hA rfl rfl rfl (m_loadS hM ByQ_isS_27 rfl 0 rfl (cs := [.bool b, .slice o1 ((words x).length) c1, .slice o2 1 c2, .bool false, .slice o3 0 c3, .slice o4 1 c4]) rfl rfl) ?_
 intro a hA
 refine seq_call hA rfl rfl rfl (enters_func rfl rfl (fun w => by kernel_rfl)) ((by have h9 := lengthPW_any (w := w5) (nm_below ha hM.bel) (lenQ_whole hx) hw hx hbx; rw [lengthQ_whole hw, hln] at h9; exact h9)) ?_
 rintro _ w8 ⟨rfl, hb7⟩
 replace hM := hM.call hb7
 refine ⟨_, rfl, ?_⟩
 intro a hA
 refine seq_do hA rfl rfl rfl (does_move rfl) ?_
 intro a hA
 refine seq_do (v := .int .i64 (((ln : Nat) : Int))) hA rfl rfl rfl (does_extract (vs := [.int .i64 (((ln : Nat) : Int)), .int .i64 0]) rfl rfl) ?_
 intro a hA
 refine seq_do (v := .int .i64 0) hA rfl rfl rfl (does_extract (vs := [.int .i64 (((ln : Nat) : Int)), .int .i64 0]) rfl rfl) ?_
 intro a hA
 refine seq_do hA rfl rfl rfl (does_assign rfl) ?_
 intro a hA
 refine seq_do hA rfl rfl rfl (does_assign rfl) ?_
 intro a hA
 refine seq_end ?_
 refine hK6 _ _ ?_
 refine wp_seq_k (fun K9 hK9 => ?_)
 refine wp_seq_k (fun K10 hK10 => ?_)
 refine wp_region_lit ?_
 refine seq_do hA rfl rfl rfl (does_move rfl) ?_
 intro a hA
 refine seq_do (v := .bool false) hA rfl rfl rfl (does_bin rfl rfl (fun w => by kernel_rfl)) ?_
 intro a hA
 refine seq_end ?_
 refine hK10 _ _ ?_
 refine wp_cond_false (hA.ev rfl) ?_
 refine wp_skip ?_
 refine hK9 _ _ ?_
 refine wp_seq_k (fun K11 hK11 => ?_)
 refine wp_seq_k (fun K12 hK12 => ?_)
 refine wp_region_lit ?_
 refine seq_do (v := .pointer (some ⟨g4, 0, none⟩)) hA rfl rfl rfl (does_field ByQ_fld_27_0 rfl rfl) ?_
 intro a hA
 refine seq_do (v := .pointer (some ⟨g4, 0, none⟩)) hA rfl rfl rfl (does_field ByQ_fld_25_0 rfl rfl) ?_
 intro a hA
 refine seq_do hA rfl rfl rfl (m_load1 hM ByQ_is1_4 rfl 0 rfl rfl) ?_
 intro a hA
 refine seq_do hA rfl rfl rfl (does_move rfl) ?_
 intro a hA
 rcases b with _ | _
 · refine seq_skip hA rfl rfl rfl ?_
   intro a hA
   refine seq_skip hA rfl rfl rfl ?_
   intro a hA
   refine seq_skip hA rfl rfl rfl ?_
   intro a hA
   refine seq_do (v := .bool false) hA rfl rfl rfl (does_pick rfl rfl rfl rfl) ?_
   intro a hA
   refine seq_do hA rfl rfl rfl (does_move rfl) ?_
   intro a hA
   refine seq_do hA rfl rfl rfl (does_move rfl) ?_
   intro a hA
   refine seq_do hA rfl rfl rfl (m_loadS hM ByQ_isS_44 rfl 1 rfl (cs := [.int .i64 (((n : Nat) : Int)), .bool bg, .bool false]) rfl rfl) ?_
   intro a hA
   refine seq_call hA rfl rfl rfl (enters_func rfl rfl (fun w => by kernel_rfl)) (room_false h1 h64) ?_
   rintro _ w14 ⟨rfl, hb13⟩
   replace hM := hM.call hb13
   refine ⟨_, rfl, ?_⟩
   intro a hA
   refine seq_do (v := .bool true) hA rfl rfl rfl (does_bin rfl rfl (fun w => (bin_gtr w).trans (by rw [show (decide (((n * 8 : Nat) : Int) < ((ln : Nat) : Int))) = true from (decide_eq_true (by first | omega | (rcases hroom with h9 | h9; omega; cases h9)))]))) ?_
   intro a hA
   refine seq_do (v := .bool true) hA rfl rfl rfl (does_pick rfl rfl rfl rfl) ?_
   intro a hA
   refine seq_end ?_
   refine hK12 _ _ ?_
   refine wp_cond_true (hA.ev rfl) ?_
   refine wp_seq_k (fun K15 hK15 => ?_)
   refine wp_region_lit ?_
   refine seq_do hA rfl rfl rfl (does_assign rfl) ?_
   intro a hA
   refine seq_do hA rfl rfl rfl (does_assign rfl) ?_
   intro a hA
   refine seq_end ?_
   refine hK15 _ _ ?_
   refine wp_ret ?_
   refine hret _ _ ?_
   refine ends (v := .tuple #[.slice none 0 0, .int .i64 4]) hA rfl (.cons (res_tmp rfl) (.cons (res_tmp rfl) .nil)) rfl ?_
   exact ⟨rfl, hM.bel⟩
 · refine seq_do (v := .pointer (some ⟨g2, 2, none⟩)) hA rfl rfl rfl (does_field ByQ_fld_44_2 rfl rfl) ?_
   intro a hA
   refine seq_do hA rfl rfl rfl (m_load1 hM ByQ_is1_4 rfl 1 rfl rfl) ?_
   intro a hA
   refine seq_do (v := .bool true) hA rfl rfl rfl (does_un rfl un_not) ?_
   intro a hA
   refine seq_do (v := .bool true) hA rfl rfl rfl (does_pick rfl rfl rfl rfl) ?_
   intro a hA
   refine seq_do hA rfl rfl rfl (does_move rfl) ?_
   intro a hA
   refine seq_skip hA rfl rfl rfl ?_
   intro a hA
   refine seq_skip hA rfl rfl rfl ?_
   intro a hA
   refine seq_skip hA rfl rfl rfl ?_
   intro a hA
   refine seq_skip hA rfl rfl rfl ?_
   intro a hA
   refine seq_do (v := .bool true) hA rfl rfl rfl (does_pick rfl rfl rfl rfl) ?_
   intro a hA
   refine seq_end ?_
   refine hK12 _ _ ?_
   refine wp_cond_true (hA.ev rfl) ?_
   refine wp_seq_k (fun K16 hK16 => ?_)
   refine wp_region_lit ?_
   refine seq_do hA rfl rfl rfl (does_assign rfl) ?_
   intro a hA
   refine seq_do hA rfl rfl rfl (does_assign rfl) ?_
   intro a hA
   refine seq_end ?_
   refine hK16 _ _ ?_
   refine wp_ret ?_
   refine hret _ _ ?_
   refine ends (v := .tuple #[.slice none 0 0, .int .i64 4]) hA rfl (.cons (res_tmp rfl) (.cons (res_tmp rfl) .nil)) rfl ?_
   exact ⟨rfl, hM.bel⟩
theorem laid_large {w : World} {b : Bool} {x n : Nat} {o1 o2 o3 o4 : Option Addr} {c1 c2 c3 c4 : Nat} (ha : Nm w (Q6.whole b x) o1 c1 o2 c2 o3 c3 o4 c4) (hx : (words x).length ≤ 512) (hbx : b.toNat ≤ x) (h1 : 1 ≤ n) (h64 : n ≤ 64) (bg sg : Bool) (hlarge : roomN n sg < bl (x - b.toNat) ∨ (b = true ∧ sg = false)) : Calls Tryd.prog 42 #[.agg #[.int .i64 ((n : Nat) : Int), .bool bg, .bool sg], numV (Q6.whole b x) o1 c1 o2 c2 o3 c3 o4 c4] w fun e w' => e = .returned (.tuple #[.slice none 0 0, .int .i64 4]) ∧ Below w.heap.size w w' := by
  cases sg
  · exact laid_large_false ha hx hbx h1 h64 rfl (hlarge.imp id And.left)
  · exact laid_large_true ha hx hbx h1 h64 rfl (hlarge.resolve_right (fun k => by cases k.2))
theorem allowed_as {w : World} {size : Int} {bg sg : Bool} {c : Bool} (h : okSize size = c) : Calls Tryd.prog 16 #[.agg #[.int .i64 size, .bool bg, .bool sg]] w fun e w' => e = .returned (.bool c) ∧ Below w.heap.size w w' := h ▸ allowed_any
theorem put_no2 {w : World} {so : Option Addr} {ca : Nat} {l : List UInt8} (hb : Rb w so l) (hca : l.length ≤ ca) (hl : l.length ≤ 140737488351232) {ap size : Int} (hap0 : -9223372036854775808 ≤ ap) (hap1 : ap ≤ 9223372036854775807) (hsize0 : -9223372036854775808 ≤ size) (hsize1 : size ≤ 9223372036854775807) (bg sg : Bool) {q : Q6} {o1 o2 o3 o4 : Option Addr} {c1 c2 c3 c4 : Nat} (k1 : okSize size = true) (k2 : inB l.length ap size = false) : Calls Tryd.prog 15 #[.slice so l.length ca, .int .i64 ap, .int .i64 size, .bool bg, .bool sg, numV q o1 c1 o2 c2 o3 c3 o4 c4] w fun e w' => e = .returned (.tuple #[.slice none 0 0, .int .i64 1]) ∧ Below w.heap.size w w' := by
 have hM : Mg w w ([]) := Mg.start w
 refine walk_of (l := [(0, .slice so l.length ca), (1, .int .i64 ap), (2, .int .i64 size), (3, .bool bg), (4, .bool sg), (5, .agg #[.bool q.b1, .slice o1 q.t1.length c1, .slice o2 q.q1.length c2, .bool q.b2, .slice o3 q.t2.length c3, .slice o4 q.q2.length c4])]) Tryd.func15 rfl Tryd.ntmps15 rfl rfl ?_
 intro Q hret hnorm hP a hA
 refine wp_seq_k (fun K1 hK1 => ?_)
 refine wp_region_lit ?_
 refine s_new (vs := [.bool q.b1, .slice o1 q.t1.length c1, .slice o2 q.q1.length c2, .bool q.b2, .slice o3 q.t2.length c3, .slice o4 q.q2.length c4]) (t := 27) hA hM rfl rfl rfl (fun g => .pointer (some ⟨g, 0, none⟩)) (does_box rfl rfl) (by decide) ?_
 intro g2 w3 hM a hA
 refine seq_do hA rfl rfl rfl (does_assign rfl) ?_
 intro a hA
 refine seq_do hA rfl rfl rfl (does_assign rfl) ?_
 intro a hA
 refine seq_end ?_
 refine hK1 _ _ ?_
 refine wp_seq_k (fun K4 hK4 => ?_)
 refine wp_region_lit ?_
 refine seq_do hA rfl rfl rfl (does_move rfl) ?_
 intro a hA
 refine seq_do hA rfl rfl rfl (does_move rfl) ?_
 intro a hA
 refine seq_do hA rfl rfl rfl (does_move rfl) ?_
 intro a hA
 refine seq_do (v := .agg #[.int .i64 size, .bool bg, .bool sg]) hA rfl rfl rfl (does_build rfl (fun w => by kernel_rfl)) ?_
 intro a hA
 refine s_new (vs := [.int .i64 0, .bool false, .bool false]) (t := 44) hA hM rfl rfl rfl (fun g => .pointer (some ⟨g, 0, none⟩)) (does_alloc (z := .agg #[.int .i64 0, .bool false, .bool false]) (by kernel_rfl) rfl) (by decide) ?_
 intro g5 w6 hM a hA
 refine s_store (us := [.int .i64 size, .bool bg, .bool sg]) (L' := (.obj g5 (.cells #[.int .i64 size, .bool bg, .bool sg] 44) :: .obj g2 (.cells #[.bool q.b1, .slice o1 q.t1.length c1, .slice o2 q.q1.length c2, .bool q.b2, .slice o3 q.t2.length c3, .slice o4 q.q2.length c4] 27) :: [])) hA hM rfl rfl (m_store rfl rfl rfl (by kernel_rfl) hM 0 rfl rfl rfl) 0 rfl rfl rfl ?_
 intro w7 hM
 refine seq_end ?_
 refine hK4 _ _ ?_
 refine wp_seq_k (fun K8 hK8 => ?_)
 refine wp_seq_k (fun K9 hK9 => ?_)
 refine wp_region_lit ?_
 refine seq_do hA rfl rfl rfl (m_loadS hM ByQ_isS_44 rfl 0 rfl (cs := [.int .i64 size, .bool bg, .bool sg]) rfl rfl) ?_
 intro a hA
 refine seq_call hA rfl rfl rfl (enters_func rfl rfl (fun w => by kernel_rfl)) (allowed_as k1) ?_
 rintro _ w11 ⟨rfl, hb10⟩
 replace hM := hM.call hb10
 refine ⟨_, rfl, ?_⟩
 intro a hA
 refine seq_do (v := .bool false) hA rfl rfl rfl (does_un rfl un_not) ?_
 intro a hA
 refine seq_do hA rfl rfl rfl (does_move rfl) ?_
 intro a hA
 refine seq_do hA rfl rfl rfl (does_move rfl) ?_
 intro a hA
 refine seq_do hA rfl rfl rfl (does_move rfl) ?_
 intro a hA
 refine seq_do hA rfl rfl rfl (does_move rfl) ?_
 intro a hA
 refine seq_call hA rfl rfl rfl (enters_func rfl rfl (fun w => by kernel_rfl)) (within_as hl (by omega) (by omega) (by omega) (by omega) k2) ?_
 rintro _ w13 ⟨rfl, hb12⟩
 replace hM := hM.call hb12
 refine ⟨_, rfl, ?_⟩
 intro a hA
 refine seq_do (v := .bool true) hA rfl rfl rfl (does_un rfl un_not) ?_
 intro a hA
 refine seq_do (v := .bool true) hA rfl rfl rfl (does_pick rfl rfl rfl rfl) ?_
 intro a hA
 refine seq_end ?_
 refine hK9 _ _ ?_
 refine wp_cond_true (hA.ev rfl) ?_
 refine wp_seq_k (fun K14 hK14 => ?_)
 refine wp_region_lit ?_
 refine seq_do hA rfl rfl rfl (does_assign rfl) ?_
 intro a hA
 refine seq_do hA rfl rfl rfl (does_assign rfl) ?_
 intro a hA
 refine seq_end ?_
 refine hK14 _ _ ?_
 refine wp_ret ?_
 refine hret _ _ ?_
 refine ends (v := .tuple #[.slice none 0 0, .int .i64 1]) hA rfl (.cons (res_tmp rfl) (.cons (res_tmp rfl) .nil)) rfl ?_
 exact ⟨rfl, hM.bel⟩
theorem put_err {w : World} {so : Option Addr} {ca : Nat} {l : List UInt8} (hb : Rb w so l) (hca : l.length ≤ ca) (hl : l.length ≤ 140737488351232) {an n : Nat} (h1 : 1 ≤ n) (h64 : n ≤ 64) (hle : an + n ≤ l.length) (bg sg : Bool) {q : Q6} {o1 o2 o3 o4 : Option Addr} {c1 c2 c3 c4 : Nat} {ec : Int} (hec : ec ≠ 0) (hlaid : ∀ W, Below w.heap.size w W → Calls Tryd.prog 42 #[.agg #[.int .i64 ((n : Nat) : Int), .bool bg, .bool sg], numV q o1 c1 o2 c2 o3 c3 o4 c4] W fun e w' => e = .returned (.tuple #[.slice none 0 0, .int .i64 ec]) ∧ Below W.heap.size W w') : Calls Tryd.prog 15 #[.slice so l.length ca, .int .i64 ((an : Nat) : Int), .int .i64 ((n : Nat) : Int), .bool bg, .bool sg, numV q o1 c1 o2 c2 o3 c3 o4 c4] w fun e w' => e = .returned (.tuple #[.slice none 0 0, .int .i64 ec]) ∧ Below w.heap.size w w' := by
 have k1 : okSize ((n : Nat) : Int) = true := by unfold okSize; apply decide_eq_true; omega
 have k2 : inB l.length ((an : Nat) : Int) ((n : Nat) : Int) = true := by unfold inB; apply decide_eq_true; omega
 have hM : Mg w w ([]) := Mg.start w
 refine walk_of (l := [(0, .slice so l.length ca), (1, .int .i64 (((an : Nat) : Int))), (2, .int .i64 (((n : Nat) : Int))), (3, .bool bg), (4, .bool sg), (5, .agg #[.bool q.b1, .slice o1 q.t1.length c1, .slice o2 q.q1.length c2, .bool q.b2, .slice o3 q.t2.length c3, .slice o4 q.q2.length c4])]) Tryd.func15 rfl Tryd.ntmps15 rfl rfl ?_
 intro Q hret hnorm hP a hA
 refine wp_seq_k (fun K1 hK1 => ?_)
 refine wp_region_lit ?_
 refine s_new (vs := [.bool q.b1, .slice o1 q.t1.length c1, .slice o2 q.q1.length c2, .bool q.b2, .slice o3 q.t2.length c3, .slice o4 q.q2.length c4]) (t := 27) hA hM rfl rfl rfl (fun g => .pointer (some ⟨g, 0, none⟩)) (does_box rfl rfl) (by decide) ?_
 intro g2 w3 hM a hA
 refine seq_do hA rfl rfl rfl (does_assign rfl) ?_
 intro a hA
 refine seq_do hA rfl rfl rfl (does_assign rfl) ?_
 intro a hA
 refine seq_end ?_
 refine hK1 _ _ ?_
 refine wp_seq_k (fun K4 hK4 => ?_)
 refine wp_region_lit ?_
 refine seq_do hA rfl rfl rfl (does_move rfl) ?_
 intro a hA
 refine seq_do hA rfl rfl rfl (does_move rfl) ?_
 intro a hA
 refine seq_do hA rfl rfl rfl (does_move rfl) ?_
 intro a hA
 refine seq_do (v := .agg #[.int .i64 (((n : Nat) : Int)), .bool bg, .bool sg]) hA rfl rfl rfl (does_build rfl (fun w => by kernel_rfl)) ?_
 intro a hA
 refine s_new (vs := [.int .i64 0, .bool false, .bool false]) (t := 44) hA hM rfl rfl rfl (fun g => .pointer (some ⟨g, 0, none⟩)) (does_alloc (z := .agg #[.int .i64 0, .bool false, .bool false]) (by kernel_rfl) rfl) (by decide) ?_
 intro g5 w6 hM a hA
 refine s_store (us := [.int .i64 (((n : Nat) : Int)), .bool bg, .bool sg]) (L' := (.obj g5 (.cells #[.int .i64 (((n : Nat) : Int)), .bool bg, .bool sg] 44) :: .obj g2 (.cells #[.bool q.b1, .slice o1 q.t1.length c1, .slice o2 q.q1.length c2, .bool q.b2, .slice o3 q.t2.length c3, .slice o4 q.q2.length c4] 27) :: [])) hA hM rfl rfl (m_store rfl rfl rfl (by kernel_rfl) hM 0 rfl rfl rfl) 0 rfl rfl rfl ?_
 intro w7 hM
 refine seq_end ?_
 refine hK4 _ _ ?_
 refine wp_seq_k (fun K8 hK8 => ?_)
 refine wp_seq_k (fun K9 hK9 => ?_)
 refine wp_region_lit ?_
 refine seq_do hA rfl rfl rfl (m_loadS hM ByQ_isS_44 rfl 0 rfl (cs := [.int .i64 (((n : Nat) : Int)), .bool bg, .bool sg]) rfl rfl) ?_
 intro a hA
 refine seq_call hA rfl rfl rfl (enters_func rfl rfl (fun w => by kernel_rfl)) (allowed_as k1) ?_
 rintro _ w11 ⟨rfl, hb10⟩
 replace hM := hM.call hb10
 refine ⟨_, rfl, ?_⟩
 intro a hA
 refine seq_do (v := .bool false) hA rfl rfl rfl (does_un rfl un_not) ?_
 intro a hA
 refine seq_do hA rfl rfl rfl (does_move rfl) ?_
 intro a hA
 refine seq_do hA rfl rfl rfl (does_move rfl) ?_
 intro a hA
 refine seq_do hA rfl rfl rfl (does_move rfl) ?_
 intro a hA
 refine seq_do hA rfl rfl rfl (does_move rfl) ?_
 intro a hA
 refine seq_call hA rfl rfl rfl (enters_func rfl rfl (fun w => by kernel_rfl)) (within_as hl (by omega) (by omega) (by omega) (by omega) k2) ?_
 rintro _ w13 ⟨rfl, hb12⟩
 replace hM := hM.call hb12
 refine ⟨_, rfl, ?_⟩
 intro a hA
 refine seq_do (v := .bool false) hA rfl rfl rfl (does_un rfl un_not) ?_
 intro a hA
 refine seq_do (v := .bool false) hA rfl rfl rfl (does_pick rfl rfl rfl rfl) ?_
 intro a hA
 refine seq_end ?_
 refine hK9 _ _ ?_
 refine wp_cond_false (hA.ev rfl) ?_
 refine wp_skip ?_
 refine hK8 _ _ ?_
 refine wp_seq_k (fun K14 hK14 => ?_)
 refine wp_region_lit ?_
 refine seq_do hA rfl rfl rfl (m_loadS hM ByQ_isS_44 rfl 0 rfl (cs := [.int .i64 (((n : Nat) : Int)), .bool bg, .bool sg]) rfl rfl) ?_
 intro a hA
 refine seq_do hA rfl rfl rfl (m_loadS hM ByQ_isS_27 rfl 1 rfl (cs := [.bool q.b1, .slice o1 q.t1.length c1, .slice o2 q.q1.length c2, .bool q.b2, .slice o3 q.t2.length c3, .slice o4 q.q2.length c4]) rfl rfl) ?_
 intro a hA
 refine seq_call hA rfl rfl rfl (enters_func rfl rfl (fun w => by kernel_rfl)) (hlaid _ hM.bel) ?_
 rintro _ w16 ⟨rfl, hb15⟩
 replace hM := hM.call hb15
 refine ⟨_, rfl, ?_⟩
 intro a hA
 refine seq_do hA rfl rfl rfl (does_move rfl) ?_
 intro a hA
 refine seq_do (v := .slice none 0 0) hA rfl rfl rfl (does_extract (vs := [.slice none 0 0, .int .i64 ec]) rfl rfl) ?_
 intro a hA
 refine seq_do (v := .int .i64 ec) hA rfl rfl rfl (does_extract (vs := [.slice none 0 0, .int .i64 ec]) rfl rfl) ?_
 intro a hA
 refine seq_do hA rfl rfl rfl (does_assign rfl) ?_
 intro a hA
 refine seq_do hA rfl rfl rfl (does_assign rfl) ?_
 intro a hA
 refine seq_end ?_
 refine hK14 _ _ ?_
 refine wp_seq_k (fun K17 hK17 => ?_)
 refine wp_seq_k (fun K18 hK18 => ?_)
 refine wp_region_lit ?_
 refine seq_do hA rfl rfl rfl (does_move rfl) ?_
 intro a hA
 refine seq_do (v := .bool true) hA rfl rfl rfl (does_bin rfl rfl (fun w => (bin_neq w).trans (by rw [show ((ec != 0)) = true from (bne_iff_ne.2 hec)]))) ?_
 intro a hA
 refine seq_end ?_
 refine hK18 _ _ ?_
 refine wp_cond_true (hA.ev rfl) ?_
 refine wp_seq_k (fun K19 hK19 => ?_)
 refine wp_region_lit ?_
 refine seq_do hA rfl rfl rfl (does_move rfl) ?_
 intro a hA
 refine seq_do hA rfl rfl rfl (does_assign rfl) ?_
 intro a hA
 refine seq_do hA rfl rfl rfl (does_assign rfl) ?_
 intro a hA
 refine seq_end ?_
 refine hK19 _ _ ?_
 refine wp_ret ?_
 refine hret _ _ ?_
 refine ends (v := .tuple #[.slice none 0 0, .int .i64 ec]) hA rfl (.cons (res_tmp rfl) (.cons (res_tmp rfl) .nil)) rfl ?_
 exact ⟨rfl, hM.bel⟩
theorem put_ok {w : World} {so : Option Addr} {ca : Nat} {l : List UInt8} (hb : Rb w so l) (hca : l.length ≤ ca) (hl : l.length ≤ 140737488351232) {an n : Nat} (h1 : 1 ≤ n) (h64 : n ≤ 64) (hle : an + n ≤ l.length) (bg sg : Bool) {q : Q6} {o1 o2 o3 o4 : Option Addr} {c1 c2 c3 c4 : Nat} {pl : List UInt8} (hpl : pl.length = n) (hlaid : ∀ W, Below w.heap.size w W → Calls Tryd.prog 42 #[.agg #[.int .i64 ((n : Nat) : Int), .bool bg, .bool sg], numV q o1 c1 o2 c2 o3 c3 o4 c4] W fun e w' => ∃ g, e = .returned (.tuple #[.slice (some ⟨g, 0, none⟩) n n, .int .i64 0]) ∧ Mg W w' [.row BY 1 (.slice (some ⟨g, 0, none⟩) n n) n (Lib.byteCells pl)]) : Calls Tryd.prog 15 #[.slice so l.length ca, .int .i64 ((an : Nat) : Int), .int .i64 ((n : Nat) : Int), .bool bg, .bool sg, numV q o1 c1 o2 c2 o3 c3 o4 c4] w fun e w' => ∃ v, e = .returned (.tuple #[v, .int .i64 0]) ∧ Mg w w' [.row BY 1 v (ovl an pl l).length (Lib.byteCells (ovl an pl l))] := by
 have k1 : okSize ((n : Nat) : Int) = true := by unfold okSize; apply decide_eq_true; omega
 have k2 : inB l.length ((an : Nat) : Int) ((n : Nat) : Int) = true := by unfold inB; apply decide_eq_true; omega
 have hM : Mg w w ([]) := Mg.start w
 refine walk_of (l := [(0, .slice so l.length ca), (1, .int .i64 (((an : Nat) : Int))), (2, .int .i64 (((n : Nat) : Int))), (3, .bool bg), (4, .bool sg), (5, .agg #[.bool q.b1, .slice o1 q.t1.length c1, .slice o2 q.q1.length c2, .bool q.b2, .slice o3 q.t2.length c3, .slice o4 q.q2.length c4])]) Tryd.func15 rfl Tryd.ntmps15 rfl rfl ?_
 intro Q hret hnorm hP a hA
 refine wp_seq_k (fun K1 hK1 => ?_)
 refine wp_region_lit ?_
 refine s_new (vs := [.bool q.b1, .slice o1 q.t1.length c1, .slice o2 q.q1.length c2, .bool q.b2, .slice o3 q.t2.length c3, .slice o4 q.q2.length c4]) (t := 27) hA hM rfl rfl rfl (fun g => .pointer (some ⟨g, 0, none⟩)) (does_box rfl rfl) (by decide) ?_
 intro g2 w3 hM a hA
 refine seq_do hA rfl rfl rfl (does_assign rfl) ?_
 intro a hA
 refine seq_do hA rfl rfl rfl (does_assign rfl) ?_
 intro a hA
 refine seq_end ?_
 refine hK1 _ _ ?_
 refine wp_seq_k (fun K4 hK4 => ?_)
 refine wp_region_lit ?_
 refine seq_do hA rfl rfl rfl (does_move rfl) ?_
 intro a hA
 refine seq_do hA rfl rfl rfl (does_move rfl) ?_
 intro a hA
 refine seq_do hA rfl rfl rfl (does_move rfl) ?_
 intro a hA
 refine seq_do (v := .agg #[.int .i64 (((n : Nat) : Int)), .bool bg, .bool sg]) hA rfl rfl rfl (does_build rfl (fun w => by kernel_rfl)) ?_
 intro a hA
 refine s_new (vs := [.int .i64 0, .bool false, .bool false]) (t := 44) hA hM rfl rfl rfl (fun g => .pointer (some ⟨g, 0, none⟩)) (does_alloc (z := .agg #[.int .i64 0, .bool false, .bool false]) (by kernel_rfl) rfl) (by decide) ?_
 intro g5 w6 hM a hA
 refine s_store (us := [.int .i64 (((n : Nat) : Int)), .bool bg, .bool sg]) (L' := (.obj g5 (.cells #[.int .i64 (((n : Nat) : Int)), .bool bg, .bool sg] 44) :: .obj g2 (.cells #[.bool q.b1, .slice o1 q.t1.length c1, .slice o2 q.q1.length c2, .bool q.b2, .slice o3 q.t2.length c3, .slice o4 q.q2.length c4] 27) :: [])) hA hM rfl rfl (m_store rfl rfl rfl (by kernel_rfl) hM 0 rfl rfl rfl) 0 rfl rfl rfl ?_
 intro w7 hM
 refine seq_end ?_
 refine hK4 _ _ ?_
 refine wp_seq_k (fun K8 hK8 => ?_)
 refine wp_seq_k (fun K9 hK9 => ?_)
 refine wp_region_lit ?_
 refine seq_do hA rfl rfl rfl (m_loadS hM ByQ_isS_44 rfl 0 rfl (cs := [.int .i64 (((n : Nat) : Int)), .bool bg, .bool sg]) rfl rfl) ?_
 intro a hA
 refine seq_call hA rfl rfl rfl (enters_func rfl rfl (fun w => by kernel_rfl)) (allowed_as k1) ?_
 rintro _ w11 ⟨rfl, hb10⟩
 replace hM := hM.call hb10
 refine ⟨_, rfl, ?_⟩
 intro a hA
 refine seq_do (v := .bool false) hA rfl rfl rfl (does_un rfl un_not) ?_
 intro a hA
 refine seq_do hA rfl rfl rfl (does_move rfl) ?_
 intro a hA
 refine seq_do hA rfl rfl rfl (does_move rfl) ?_
 intro a hA
 refine seq_do hA rfl rfl rfl (does_move rfl) ?_
 intro a hA
 refine seq_do hA rfl rfl rfl (does_move rfl) ?_
 intro a hA
 refine seq_call hA rfl rfl rfl (enters_func rfl rfl (fun w => by kernel_rfl)) (within_as hl (by omega) (by omega) (by omega) (by omega) k2) ?_
 rintro _ w13 ⟨rfl, hb12⟩
 replace hM := hM.call hb12
 refine ⟨_, rfl, ?_⟩
 intro a hA
 refine seq_do (v := .bool false) hA rfl rfl rfl (does_un rfl un_not) ?_
 intro a hA
 refine seq_do (v := .bool false) hA rfl rfl rfl (does_pick rfl rfl rfl rfl) ?_
 intro a hA
 refine seq_end ?_
 refine hK9 _ _ ?_
 refine wp_cond_false (hA.ev rfl) ?_
 refine wp_skip ?_
 refine hK8 _ _ ?_
 refine wp_seq_k (fun K14 hK14 => ?_)
 refine wp_region_lit ?_
 refine seq_do hA rfl rfl rfl (m_loadS hM ByQ_isS_44 rfl 0 rfl (cs := [.int .i64 (((n : Nat) : Int)), .bool bg, .bool sg]) rfl rfl) ?_
 intro a hA
 refine seq_do hA rfl rfl rfl (m_loadS hM ByQ_isS_27 rfl 1 rfl (cs := [.bool q.b1, .slice o1 q.t1.length c1, .slice o2 q.q1.length c2, .bool q.b2, .slice o3 q.t2.length c3, .slice o4 q.q2.length c4]) rfl rfl) ?_
 intro a hA
 refine seq_call hA rfl rfl rfl (enters_func rfl rfl (fun w => by kernel_rfl)) (hlaid _ hM.bel) ?_
 rintro _ w17 ⟨g15, rfl, hM16⟩
 replace hM : Mg w w17 (.row BY 1 (.slice (some ⟨g15, 0, none⟩) n n) n ((Lib.byteCells pl)) :: .obj g5 (.cells #[.int .i64 (((n : Nat) : Int)), .bool bg, .bool sg] 44) :: .obj g2 (.cells #[.bool q.b1, .slice o1 q.t1.length c1, .slice o2 q.q1.length c2, .bool q.b2, .slice o3 q.t2.length c3, .slice o4 q.q2.length c4] 27) :: []) := (hM.both hM16 (noBld_cons (by simp) (noBld_cons (by simp) (noBld_quiet quietL_nil))) (noBld_cons (by simp) (noBld_quiet quietL_nil)))
 refine ⟨_, rfl, ?_⟩
 intro a hA
 refine seq_do hA rfl rfl rfl (does_move rfl) ?_
 intro a hA
 refine seq_do (v := .slice (some ⟨g15, 0, none⟩) n n) hA rfl rfl rfl (does_extract (vs := [.slice (some ⟨g15, 0, none⟩) n n, .int .i64 0]) rfl rfl) ?_
 intro a hA
 refine seq_do (v := .int .i64 0) hA rfl rfl rfl (does_extract (vs := [.slice (some ⟨g15, 0, none⟩) n n, .int .i64 0]) rfl rfl) ?_
 intro a hA
 refine seq_do hA rfl rfl rfl (does_assign rfl) ?_
 intro a hA
 refine seq_do hA rfl rfl rfl (does_assign rfl) ?_
 intro a hA
 refine seq_end ?_
 refine hK14 _ _ ?_
 refine wp_seq_k (fun K18 hK18 => ?_)
 refine wp_seq_k (fun K19 hK19 => ?_)
 refine wp_region_lit ?_
 refine seq_do hA rfl rfl rfl (does_move rfl) ?_
 intro a hA
 refine seq_do (v := .bool false) hA rfl rfl rfl (does_bin rfl rfl (fun w => by kernel_rfl)) ?_
 intro a hA
 refine seq_end ?_
 refine hK19 _ _ ?_
 refine wp_cond_false (hA.ev rfl) ?_
 refine wp_skip ?_
 refine hK18 _ _ ?_
 refine wp_seq_k (fun K20 hK20 => ?_)
 refine wp_region_lit ?_
 refine seq_do hA rfl rfl rfl (does_move rfl) ?_
 intro a hA
 refine seq_do hA rfl rfl rfl (does_move rfl) ?_
 intro a hA
 refine seq_do hA rfl rfl rfl (does_move rfl) ?_
 intro a hA
 refine seq_call hA rfl rfl rfl (enters_func rfl rfl (fun w => by kernel_rfl)) ((by have h9 := overlaid_any (w := w17) (an := an) (ca := ca) (cp := n) (l := l) (p := pl) (hb.below hM.bel) (rb_row (bs := pl) hM 0 rfl).1 hl (by omega); rw [hpl] at h9; exact h9)) ?_
 rintro _ w23 ⟨v21, rfl, hM22⟩
 replace hM : Mg w w23 (.row BY 1 (v21) ((ovl an pl l).length) ((Lib.byteCells (ovl an pl l))) :: .row BY 1 (.slice (some ⟨g15, 0, none⟩) n n) n ((Lib.byteCells pl)) :: .obj g5 (.cells #[.int .i64 (((n : Nat) : Int)), .bool bg, .bool sg] 44) :: .obj g2 (.cells #[.bool q.b1, .slice o1 q.t1.length c1, .slice o2 q.q1.length c2, .bool q.b2, .slice o3 q.t2.length c3, .slice o4 q.q2.length c4] 27) :: []) := (hM.both hM22 (noBld_cons (by simp) (noBld_cons (by simp) (noBld_cons (by simp) (noBld_quiet quietL_nil)))) (noBld_cons (by simp) (noBld_quiet quietL_nil)))
 refine ⟨_, rfl, ?_⟩
 intro a hA
 refine seq_do hA rfl rfl rfl (does_assign rfl) ?_
 intro a hA
 refine seq_do hA rfl rfl rfl (does_assign rfl) ?_
 intro a hA
 refine seq_end ?_
 refine hK20 _ _ ?_
 refine wp_ret ?_
 refine hret _ _ ?_
 refine ends (v := .tuple #[v21, .int .i64 0]) hA rfl (.cons (res_tmp rfl) (.cons (res_tmp rfl) .nil)) rfl ?_
 exact ⟨_, rfl, hM.sub (.cons_cons _ (.cons _ (.cons _ (.cons _ (.refl _)))))⟩
end Go.Proofs.YtbajcflbimmnhaaDoor.G
namespace Go.Proofs.YtbajcflbimmnhaaDoor
open Go.RowKit
set_option linter.unusedVariables false
set_option linter.unusedSimpArgs false

theorem ovl_get {an : Nat} {p l : List UInt8} {n : Nat} (hp : p.length = n) (hle : an + n ≤ l.length) : ((G.ovl an p l).drop an).take n = p := by
  unfold G.ovl
  rw [List.append_assoc, List.drop_append_of_le_length (by rw [List.length_take]; omega), List.drop_take, Nat.sub_self, List.take_zero, List.nil_append, ← hp, List.take_left]
theorem ovl_out {an : Nat} {p l : List UInt8} {n i : Nat} (hp : p.length = n) (hle : an + n ≤ l.length) (hi : i < an ∨ an + n ≤ i) : (G.ovl an p l).getD i 0 = l.getD i 0 := by
  unfold G.ovl
  rw [List.getD_eq_getElem?_getD, List.getD_eq_getElem?_getD, List.append_assoc]
  rcases hi with h | h
  · rw [List.getElem?_append_left (by rw [List.length_take]; omega), List.getElem?_take, if_pos h]
  · rw [List.getElem?_append_right (by rw [List.length_take]; omega), List.length_take, Nat.min_eq_left (by omega), List.getElem?_append_right (by omega), List.getElem?_drop]
    congr 2
    omega
theorem ovl_keep {an bn n : Nat} {p m : List UInt8} (hp : p.length = n) (hb : an + n ≤ bn) (hle : bn + n ≤ m.length) : ((G.ovl bn p m).drop an).take n = (m.drop an).take n := by
  refine List.ext_getElem? fun i => ?_
  rw [List.getElem?_take, List.getElem?_take]
  by_cases hi : i < n
  · rw [if_pos hi, if_pos hi, List.getElem?_drop, List.getElem?_drop]
    unfold G.ovl
    rw [List.append_assoc, List.getElem?_append_left (by rw [List.length_take]; omega), List.getElem?_take, if_pos (by omega)]
  · rw [if_neg hi, if_neg hi]
theorem fld_whole {b : Bool} {x n : Nat} (h1 : 1 ≤ n) (hb : b.toNat ≤ x) (hroom : bl (x - b.toNat) ≤ n * 8 - 1) : (b = false ∧ fld b (x - b.toNat) 0 (n * 8) = x ∧ x < 2 ^ (n * 8 - 1)) ∨ (b = true ∧ fld b (x - b.toNat) 0 (n * 8) = 256 ^ n - x ∧ 1 ≤ x ∧ x ≤ 2 ^ (n * 8 - 1)) := by
  have hz := zrow_mod b (x - b.toNat) (n * 8)
  have hlt := bl_le.1 hroom
  have hp : 2 ^ (n * 8) = 2 * 2 ^ (n * 8 - 1) := by rw [← Nat.pow_succ']; congr 1; omega
  have h256 : 256 ^ n = 2 ^ (n * 8) := by rw [Nat.mul_comm, pow_8]
  cases b with
  | false =>
    left
    refine ⟨rfl, ?_, by simpa using hlt⟩
    simp only [Bool.toNat_false, Nat.sub_zero] at hz hlt ⊢
    unfold zrow at hz
    rw [if_neg (by decide)] at hz
    have e : ((x : Nat) : Int) % ((2 ^ (n * 8) : Nat) : Int) = ((x % 2 ^ (n * 8) : Nat) : Int) := rfl
    rw [e, Nat.mod_eq_of_lt (by omega)] at hz
    exact (Int.ofNat.inj hz).symm
  | true =>
    right
    simp only [Bool.toNat_true] at hz hlt hb
    refine ⟨rfl, ?_, hb, by omega⟩
    show fld true (x - 1) 0 (n * 8) = _
    unfold zrow at hz
    rw [if_pos rfl] at hz
    have e : -((((x - 1 : Nat) : Int)) + 1) = (((2 ^ (n * 8) - x : Nat)) : Int) + ((2 ^ (n * 8) : Nat) : Int) * (-1) := by omega
    rw [e, Int.add_mul_emod_self_left] at hz
    have e2 : (((2 ^ (n * 8) - x : Nat)) : Int) % ((2 ^ (n * 8) : Nat) : Int) = (((2 ^ (n * 8) - x) % 2 ^ (n * 8) : Nat) : Int) := rfl
    have hpos : 0 < 2 ^ (n * 8 - 1) := Nat.two_pow_pos _
    rw [e2, Nat.mod_eq_of_lt (by omega)] at hz
    rw [h256]
    exact (Int.ofNat.inj hz).symm
theorem round_trip {b : Bool} {x n : Nat} (bg : Bool) (h1 : 1 ≤ n) (hb : b.toNat ≤ x) (hroom : bl (x - b.toNat) ≤ n * 8 - 1) : G.numQ bg true (G.lowB bg (G.leB n (fld b (x - b.toNat) 0 (n * 8)))) = Q6.whole b x := by
  have h256 : 256 ^ n = 2 ^ (n * 8) := by rw [Nat.mul_comm, pow_8]
  have hp : 2 ^ (n * 8) = 2 * 2 ^ (n * 8 - 1) := by rw [← Nat.pow_succ']; congr 1; omega
  have hpos : 0 < 2 ^ (n * 8 - 1) := Nat.two_pow_pos _
  have hlen : (G.lowB bg (G.leB n (fld b (x - b.toNat) 0 (n * 8)))).length = n := by rw [G.low_len, G.leB_len]
  unfold G.numQ
  rw [hlen, G.low_low]
  have htop := top_bit (l := G.leB n (fld b (x - b.toNat) 0 (n * 8))) (G.leB_len _ _) h1
  rcases fld_whole h1 hb hroom with ⟨rfl, hF, hx⟩ | ⟨rfl, hF, hx1, hx2⟩
  · rw [hF] at htop ⊢
    have hN : G.leN (G.leB n x) = x := G.leN_leB n x (by omega)
    rw [hN] at htop ⊢
    have hbl : bl x ≤ n * 8 - 1 := bl_le.2 hx
    rw [if_neg (fun k => by have := htop.2 k.2; omega)]
  · rw [hF] at htop ⊢
    have hN : G.leN (G.leB n (256 ^ n - x)) = 256 ^ n - x := G.leN_leB n _ (by omega)
    rw [hN] at htop ⊢
    have hbl : bl (256 ^ n - x) = 8 * n := by
      have h4 := bl_eq (x := 256 ^ n - x) (n := n * 8 - 1) (by omega) (by rw [show n * 8 - 1 + 1 = n * 8 from by omega]; omega)
      omega
    rw [if_pos ⟨rfl, htop.1 hbl⟩, show 256 ^ n - (256 ^ n - x) = x from by omega]
end Go.Proofs.YtbajcflbimmnhaaDoor
namespace Go.Proofs.YtbajcflbimmnhaaDoor
open Go.RowKit
set_option linter.unusedVariables false
set_option linter.unusedSimpArgs false
set_option maxRecDepth 100000
theorem GvH_is1_5 : Is1 Tryd.prog 5 := ⟨⟨_, Tryd.underlying5, rfl⟩, by kernel_rfl⟩
theorem GvH_isS_27 : IsS Tryd.prog 27 6 := ⟨⟨_, Tryd.underlying27⟩, by kernel_rfl⟩
theorem apart_e1 {w : World} {so : Option Addr} {ca : Nat} {l : List UInt8} (hb : G.Rb w so l) (hca : l.length ≤ ca) (hl : l.length ≤ 140737488351232) {X Y : Q6} {a1 a2 a3 a4 : Option Addr} {ac1 ac2 ac3 ac4 : Nat} (ha : Nm w X a1 ac1 a2 ac2 a3 ac3 a4 ac4) (hX : LenQ X) {u1 u2 u3 u4 : Option Addr} {uc1 uc2 uc3 uc4 : Nat} (hu : Nm w Y u1 uc1 u2 uc2 u3 uc3 u4 uc4) (hY : LenQ Y) {at_ sz an n : Nat} (hat : at_ < 256) (hsz : sz < 256) (han : at_ % 40 = an) (hn : sz % 8 + 1 = n) (bg : Bool) {ec : Int} (hec : ec ≠ 0) (hP1 : ∀ W, Below w.heap.size w W → Calls Tryd.prog 15 #[.slice so l.length ca, .int .i64 ((an : Nat) : Int), .int .i64 ((n : Nat) : Int), .bool bg, .bool true, numV X a1 ac1 a2 ac2 a3 ac3 a4 ac4] W (fun e w' => e = .returned (.tuple #[.slice none 0 0, .int .i64 ec]) ∧ Below W.heap.size W w')) : Calls Tryd.prog 5 #[.slice so l.length ca, .int .u8 ((at_ : Nat) : Int), .int .u8 ((sz : Nat) : Int), .bool bg, numV X a1 ac1 a2 ac2 a3 ac3 a4 ac4, numV Y u1 uc1 u2 uc2 u3 uc3 u4 uc4] w fun e w' => e = .returned (.bool true) ∧ Below w.heap.size w w' := by
 have hn8 : n ≤ 8 := by omega
 have hn1 : 1 ≤ n := by omega
 have han40 : an < 40 := by omega
 have hS : St w w [] [(u4, Y.q2), (u3, Y.t2), (u2, Y.q1), (u1, Y.t1), (a4, X.q2), (a3, X.t2), (a2, X.q1), (a1, X.t1)] [] := ((((((((St.start w).addR ha.s1.rd).addR ha.s2.rd).addR ha.s3.rd).addR ha.s4.rd).addR hu.s1.rd).addR hu.s2.rd).addR hu.s3.rd).addR hu.s4.rd
 refine walk_of (l := [(0, .slice so l.length ca), (1, .int .u8 (((at_ : Nat) : Int))), (2, .int .u8 (((sz : Nat) : Int))), (3, .bool bg), (4, .agg #[.bool X.b1, .slice a1 X.t1.length ac1, .slice a2 X.q1.length ac2, .bool X.b2, .slice a3 X.t2.length ac3, .slice a4 X.q2.length ac4]), (5, .agg #[.bool Y.b1, .slice u1 Y.t1.length uc1, .slice u2 Y.q1.length uc2, .bool Y.b2, .slice u3 Y.t2.length uc3, .slice u4 Y.q2.length uc4])]) Tryd.func5 rfl Tryd.ntmps5 rfl rfl ?_
 intro Q hret hnorm hP a hA
 refine wp_seq_k (fun K1 hK1 => ?_)
 refine wp_region_lit ?_
 refine seq_new hA hS rfl rfl rfl (fun g => .pointer (some ⟨g, 0, none⟩)) (does_box rfl rfl) rfl ?_
 intro g2 w3 hS a hA
 refine seq_new hA hS rfl rfl rfl (fun g => .pointer (some ⟨g, 0, none⟩)) (does_box rfl rfl) rfl ?_
 intro g4 w5 hS a hA
 refine seq_do hA rfl rfl rfl (does_assign rfl) fun a hA => ?_
 refine seq_end ?_
 refine hK1 _ _ ?_
 refine wp_seq_k (fun K6 hK6 => ?_)
 refine wp_region_lit ?_
 refine seq_do hA rfl rfl rfl (does_move rfl) fun a hA => ?_
 refine seq_do (v := .int .u8 (((n - 1 : Nat) : Int))) hA rfl rfl rfl (does_bin rfl rfl (ar_rem (by decide) ((Int.tmod_eq_emod_of_nonneg (by omega)).trans (by omega)))) fun a hA => ?_
 refine seq_do (v := .int .i64 (((n - 1 : Nat) : Int))) hA rfl rfl rfl (does_convert rfl (ar_conv Tryd.underlying5 Tryd.underlying3 (in_i64 (by omega) (by omega)))) fun a hA => ?_
 refine seq_do (v := .int .i64 (((n : Nat) : Int))) hA rfl rfl rfl (does_bin rfl rfl (ar_add ((in_i64 (by omega) (by omega)).trans (by omega)))) fun a hA => ?_
 refine seq_do hA rfl rfl rfl (does_assign rfl) fun a hA => ?_
 refine seq_end ?_
 refine hK6 _ _ ?_
 refine wp_seq_k (fun K7 hK7 => ?_)
 refine wp_region_lit ?_
 refine seq_do hA rfl rfl rfl (does_move rfl) fun a hA => ?_
 refine seq_do (v := .int .u8 (((an : Nat) : Int))) hA rfl rfl rfl (does_bin rfl rfl (ar_rem (by decide) ((Int.tmod_eq_emod_of_nonneg (by omega)).trans (by omega)))) fun a hA => ?_
 refine seq_do (v := .int .i64 (((an : Nat) : Int))) hA rfl rfl rfl (does_convert rfl (ar_conv Tryd.underlying5 Tryd.underlying3 (in_i64 (by omega) (by omega)))) fun a hA => ?_
 refine seq_do hA rfl rfl rfl (does_assign rfl) fun a hA => ?_
 refine seq_end ?_
 refine hK7 _ _ ?_
 refine wp_seq_k (fun K8 hK8 => ?_)
 refine wp_region_lit ?_
 refine seq_do hA rfl rfl rfl (does_move rfl) fun a hA => ?_
 refine seq_do hA rfl rfl rfl (does_move rfl) fun a hA => ?_
 refine seq_do hA rfl rfl rfl (does_move rfl) fun a hA => ?_
 refine seq_do hA rfl rfl rfl (does_move rfl) fun a hA => ?_
 refine seq_do hA rfl rfl rfl (does_loadS hS GvH_isS_27 rfl 1 rfl (cs := [.bool X.b1, .slice a1 X.t1.length ac1, .slice a2 X.q1.length ac2, .bool X.b2, .slice a3 X.t2.length ac3, .slice a4 X.q2.length ac4]) rfl rfl) fun a hA => ?_
 refine seq_call hA rfl rfl rfl (enters_func  rfl rfl (fun w => by kernel_rfl)) (hP1 _ hS.bel) ?_
 rintro _ w10 ⟨rfl, hb9⟩
 replace hS := hS.call hb9
 refine ⟨_, rfl, ?_⟩
 intro a hA
 refine seq_do hA rfl rfl rfl (does_move rfl) fun a hA => ?_
 refine seq_do (v := .slice none 0 0) hA rfl rfl rfl (does_extract (vs := [.slice none 0 0, .int .i64 ec]) rfl rfl) fun a hA => ?_
 refine seq_do (v := .int .i64 ec) hA rfl rfl rfl (does_extract (vs := [.slice none 0 0, .int .i64 ec]) rfl rfl) fun a hA => ?_
 refine seq_do hA rfl rfl rfl (does_assign rfl) fun a hA => ?_
 refine seq_do hA rfl rfl rfl (does_assign rfl) fun a hA => ?_
 refine seq_end ?_
 refine hK8 _ _ ?_
 refine wp_seq_k (fun K11 hK11 => ?_)
 refine wp_seq_k (fun K12 hK12 => ?_)
 refine wp_region_lit ?_
 refine seq_call hA rfl rfl rfl (enters_func  rfl rfl (fun w => by kernel_rfl)) (G.awake5_any) ?_
 rintro _ w14 ⟨rfl, hb13⟩
 replace hS := hS.call hb13
 refine ⟨_, rfl, ?_⟩
 intro a hA
 refine seq_do (v := .bool false) hA rfl rfl rfl (does_un rfl un_not) fun a hA => ?_
 refine seq_do hA rfl rfl rfl (does_move rfl) fun a hA => ?_
 refine seq_do hA rfl rfl rfl (does_move rfl) fun a hA => ?_
 refine seq_do (v := .bool true) hA rfl rfl rfl (does_bin rfl rfl (fun w => (bin_neq w).trans (by rw [show ((ec != 0)) = true from (bne_iff_ne.2 hec)]))) fun a hA => ?_
 refine seq_do (v := .bool true) hA rfl rfl rfl (does_pick rfl rfl rfl rfl) fun a hA => ?_
 refine seq_end ?_
 refine hK12 _ _ ?_
 refine wp_cond_true (hA.ev rfl) ?_
 refine wp_seq_k (fun K15 hK15 => ?_)
 refine wp_region_lit ?_
 refine seq_call hA rfl rfl rfl (enters_func  rfl rfl (fun w => by kernel_rfl)) (G.awake5_any) ?_
 rintro _ w17 ⟨rfl, hb16⟩
 replace hS := hS.call hb16
 refine ⟨_, rfl, ?_⟩
 intro a hA
 refine seq_do hA rfl rfl rfl (does_assign rfl) fun a hA => ?_
 refine seq_end ?_
 refine hK15 _ _ ?_
 refine wp_ret ?_
 refine hret _ _ ?_
 refine ends (v := .bool true) hA rfl (.cons (res_tmp rfl) .nil) rfl ?_
 exact ⟨rfl, hS.bel⟩
set_option maxHeartbeats 1000000 in
theorem apart_e2 {w : World} {so : Option Addr} {ca : Nat} {l : List UInt8} (hb : G.Rb w so l) (hca : l.length ≤ ca) (hl : l.length ≤ 140737488351232) {X Y : Q6} {a1 a2 a3 a4 : Option Addr} {ac1 ac2 ac3 ac4 : Nat} (ha : Nm w X a1 ac1 a2 ac2 a3 ac3 a4 ac4) (hX : LenQ X) {u1 u2 u3 u4 : Option Addr} {uc1 uc2 uc3 uc4 : Nat} (hu : Nm w Y u1 uc1 u2 uc2 u3 uc3 u4 uc4) (hY : LenQ Y) {at_ sz an n : Nat} (hat : at_ < 256) (hsz : sz < 256) (han : at_ % 40 = an) (hn : sz % 8 + 1 = n) (bg : Bool) {ec : Int} (hec : ec ≠ 0) {p : List UInt8} (hpl : p.length = l.length) (hout : ∀ i, (i < an ∨ an + n ≤ i) → p.getD i 0 = l.getD i 0) (hP1 : ∀ W, Below w.heap.size w W → Calls Tryd.prog 15 #[.slice so l.length ca, .int .i64 ((an : Nat) : Int), .int .i64 ((n : Nat) : Int), .bool bg, .bool true, numV X a1 ac1 a2 ac2 a3 ac3 a4 ac4] W (fun e w' => ∃ v, e = .returned (.tuple #[v, .int .i64 0]) ∧ G.Mg W w' [.row G.BY 1 v p.length (Lib.byteCells p)])) (hP2 : ∀ W so' ca', Below w.heap.size w W → G.Rb W so' p → p.length ≤ ca' → Calls Tryd.prog 15 #[.slice so' p.length ca', .int .i64 ((an + n : Nat) : Int), .int .i64 ((n : Nat) : Int), .bool bg, .bool true, numV Y u1 uc1 u2 uc2 u3 uc3 u4 uc4] W (fun e w' => e = .returned (.tuple #[.slice none 0 0, .int .i64 ec]) ∧ Below W.heap.size W w')) : Calls Tryd.prog 5 #[.slice so l.length ca, .int .u8 ((at_ : Nat) : Int), .int .u8 ((sz : Nat) : Int), .bool bg, numV X a1 ac1 a2 ac2 a3 ac3 a4 ac4, numV Y u1 uc1 u2 uc2 u3 uc3 u4 uc4] w fun e w' => e = .returned (.bool true) ∧ Below w.heap.size w w' := by
 have hn8 : n ≤ 8 := by omega
 have hn1 : 1 ≤ n := by omega
 have han40 : an < 40 := by omega
 have hS : St w w [] [(u4, Y.q2), (u3, Y.t2), (u2, Y.q1), (u1, Y.t1), (a4, X.q2), (a3, X.t2), (a2, X.q1), (a1, X.t1)] [] := ((((((((St.start w).addR ha.s1.rd).addR ha.s2.rd).addR ha.s3.rd).addR ha.s4.rd).addR hu.s1.rd).addR hu.s2.rd).addR hu.s3.rd).addR hu.s4.rd
 refine walk_of (l := [(0, .slice so l.length ca), (1, .int .u8 (((at_ : Nat) : Int))), (2, .int .u8 (((sz : Nat) : Int))), (3, .bool bg), (4, .agg #[.bool X.b1, .slice a1 X.t1.length ac1, .slice a2 X.q1.length ac2, .bool X.b2, .slice a3 X.t2.length ac3, .slice a4 X.q2.length ac4]), (5, .agg #[.bool Y.b1, .slice u1 Y.t1.length uc1, .slice u2 Y.q1.length uc2, .bool Y.b2, .slice u3 Y.t2.length uc3, .slice u4 Y.q2.length uc4])]) Tryd.func5 rfl Tryd.ntmps5 rfl rfl ?_
 intro Q hret hnorm hP a hA
 refine wp_seq_k (fun K1 hK1 => ?_)
 refine wp_region_lit ?_
 refine seq_new hA hS rfl rfl rfl (fun g => .pointer (some ⟨g, 0, none⟩)) (does_box rfl rfl) rfl ?_
 intro g2 w3 hS a hA
 refine seq_new hA hS rfl rfl rfl (fun g => .pointer (some ⟨g, 0, none⟩)) (does_box rfl rfl) rfl ?_
 intro g4 w5 hS a hA
 refine seq_do hA rfl rfl rfl (does_assign rfl) fun a hA => ?_
 refine seq_end ?_
 refine hK1 _ _ ?_
 refine wp_seq_k (fun K6 hK6 => ?_)
 refine wp_region_lit ?_
 refine seq_do hA rfl rfl rfl (does_move rfl) fun a hA => ?_
 refine seq_do (v := .int .u8 (((n - 1 : Nat) : Int))) hA rfl rfl rfl (does_bin rfl rfl (ar_rem (by decide) ((Int.tmod_eq_emod_of_nonneg (by omega)).trans (by omega)))) fun a hA => ?_
 refine seq_do (v := .int .i64 (((n - 1 : Nat) : Int))) hA rfl rfl rfl (does_convert rfl (ar_conv Tryd.underlying5 Tryd.underlying3 (in_i64 (by omega) (by omega)))) fun a hA => ?_
 refine seq_do (v := .int .i64 (((n : Nat) : Int))) hA rfl rfl rfl (does_bin rfl rfl (ar_add ((in_i64 (by omega) (by omega)).trans (by omega)))) fun a hA => ?_
 refine seq_do hA rfl rfl rfl (does_assign rfl) fun a hA => ?_
 refine seq_end ?_
 refine hK6 _ _ ?_
 refine wp_seq_k (fun K7 hK7 => ?_)
 refine wp_region_lit ?_
 refine seq_do hA rfl rfl rfl (does_move rfl) fun a hA => ?_
 refine seq_do (v := .int .u8 (((an : Nat) : Int))) hA rfl rfl rfl (does_bin rfl rfl (ar_rem (by decide) ((Int.tmod_eq_emod_of_nonneg (by omega)).trans (by omega)))) fun a hA => ?_
 refine seq_do (v := .int .i64 (((an : Nat) : Int))) hA rfl rfl rfl (does_convert rfl (ar_conv Tryd.underlying5 Tryd.underlying3 (in_i64 (by omega) (by omega)))) fun a hA => ?_
 refine seq_do hA rfl rfl rfl (does_assign rfl) fun a hA => ?_
 refine seq_end ?_
 refine hK7 _ _ ?_
 refine wp_seq_k (fun K8 hK8 => ?_)
 refine wp_region_lit ?_
 refine seq_do hA rfl rfl rfl (does_move rfl) fun a hA => ?_
 refine seq_do hA rfl rfl rfl (does_move rfl) fun a hA => ?_
 refine seq_do hA rfl rfl rfl (does_move rfl) fun a hA => ?_
 refine seq_do hA rfl rfl rfl (does_move rfl) fun a hA => ?_
 refine seq_do hA rfl rfl rfl (does_loadS hS GvH_isS_27 rfl 1 rfl (cs := [.bool X.b1, .slice a1 X.t1.length ac1, .slice a2 X.q1.length ac2, .bool X.b2, .slice a3 X.t2.length ac3, .slice a4 X.q2.length ac4]) rfl rfl) fun a hA => ?_
 refine seq_call hA rfl rfl rfl (enters_func  rfl rfl (fun w => by kernel_rfl)) (hP1 _ hS.bel) ?_
 rintro _ w13 ⟨v9, rfl, hM12⟩
 obtain ⟨so10, ca11, rfl⟩ := G.owns_slice (hM12.has 0 rfl)
 replace hS := hS.call hM12.bel
 refine ⟨_, rfl, ?_⟩
 intro a hA
 have hWz14 : Below w.heap.size w w13 := hS.bel
 have hFg4z14 : Blk w13 g4 [.bool Y.b1, .slice u1 Y.t1.length uc1, .slice u2 Y.q1.length uc2, .bool Y.b2, .slice u3 Y.t2.length uc3, .slice u4 Y.q2.length uc4] := (hS.own (g4, [.bool Y.b1, .slice u1 Y.t1.length uc1, .slice u2 Y.q1.length uc2, .bool Y.b2, .slice u3 Y.t2.length uc3, .slice u4 Y.q2.length uc4]) (by simp)).2
 have hFg2z14 : Blk w13 g2 [.bool X.b1, .slice a1 X.t1.length ac1, .slice a2 X.q1.length ac2, .bool X.b2, .slice a3 X.t2.length ac3, .slice a4 X.q2.length ac4] := (hS.own (g2, [.bool X.b1, .slice a1 X.t1.length ac1, .slice a2 X.q1.length ac2, .bool X.b2, .slice a3 X.t2.length ac3, .slice a4 X.q2.length ac4]) (by simp)).2
 have hXwz14 := G.nm_below ha hWz14
 have hYwz14 := G.nm_below hu hWz14
 have hbz14 := hb.below hS.bel
 have hRz14 : G.Rb w13 so10 p := (G.rb_row (bs := p) hM12 0 rfl).1
 have hRcz14 := G.own_cap hM12 0 rfl
 clear hS
 have hS : St w13 w13 [] [] [] := St.start w13
 refine seq_do hA rfl rfl rfl (does_move rfl) fun a hA => ?_
 refine seq_do (v := .slice so10 p.length ca11) hA rfl rfl rfl (does_extract (vs := [.slice so10 p.length ca11, .int .i64 0]) rfl rfl) fun a hA => ?_
 refine seq_do (v := .int .i64 0) hA rfl rfl rfl (does_extract (vs := [.slice so10 p.length ca11, .int .i64 0]) rfl rfl) fun a hA => ?_
 refine seq_do hA rfl rfl rfl (does_assign rfl) fun a hA => ?_
 refine seq_do hA rfl rfl rfl (does_assign rfl) fun a hA => ?_
 refine seq_end ?_
 refine hK8 _ _ ?_
 refine wp_seq_k (fun K15 hK15 => ?_)
 refine wp_seq_k (fun K16 hK16 => ?_)
 refine wp_region_lit ?_
 refine seq_call hA rfl rfl rfl (enters_func  rfl rfl (fun w => by kernel_rfl)) (G.awake5_any) ?_
 rintro _ w18 ⟨rfl, hb17⟩
 replace hS := hS.call hb17
 refine ⟨_, rfl, ?_⟩
 intro a hA
 refine seq_do (v := .bool false) hA rfl rfl rfl (does_un rfl un_not) fun a hA => ?_
 refine seq_do hA rfl rfl rfl (does_move rfl) fun a hA => ?_
 refine seq_do hA rfl rfl rfl (does_move rfl) fun a hA => ?_
 refine seq_do (v := .bool false) hA rfl rfl rfl (does_bin rfl rfl (fun w => by kernel_rfl)) fun a hA => ?_
 refine seq_do (v := .bool false) hA rfl rfl rfl (does_pick rfl rfl rfl rfl) fun a hA => ?_
 refine seq_end ?_
 refine hK16 _ _ ?_
 refine wp_cond_false (hA.ev rfl) ?_
 refine wp_skip ?_
 refine hK15 _ _ ?_
 refine wp_seq_k (fun K19 hK19 => ?_)
 refine wp_seq_k (fun K20 hK20 => ?_)
 refine wp_region_lit ?_
 refine seq_do hA rfl rfl rfl (does_move rfl) fun a hA => ?_
 refine seq_do (v := .int .i64 (((p.length : Nat) : Int))) hA rfl rfl rfl (does_len Tryd.underlying22 rfl) fun a hA => ?_
 refine seq_do hA rfl rfl rfl (does_move rfl) fun a hA => ?_
 refine seq_do (v := .int .i64 (((l.length : Nat) : Int))) hA rfl rfl rfl (does_len Tryd.underlying22 rfl) fun a hA => ?_
 refine seq_do (v := .bool false) hA rfl rfl rfl (does_bin rfl rfl (fun w => (bin_neq w).trans (by rw [show ((((p.length : Nat) : Int) != ((l.length : Nat) : Int))) = false from (bne_eq_false_iff_eq.2 (by omega))]))) fun a hA => ?_
 refine seq_end ?_
 refine hK20 _ _ ?_
 refine wp_cond_false (hA.ev rfl) ?_
 refine wp_skip ?_
 refine hK19 _ _ ?_
 refine wp_seq_k (fun K21 hK21 => ?_)
 refine wp_seq_k (fun K22 hK22 => ?_)
 refine wp_region_lit ?_
 refine seq_do hA rfl rfl rfl (does_assign rfl) fun a hA => ?_
 refine seq_end ?_
 refine hK22 _ _ ?_
 refine wp_block ?_
 refine wp_loop_n (fun m a w1 => ∃ (i : Nat), m = 1 + (l.length - i) ∧ (i ≤ l.length) ∧ Sl a 125 [(0, .slice so l.length ca), (1, .int .u8 (((at_ : Nat) : Int))), (2, .int .u8 (((sz : Nat) : Int))), (3, .bool bg), (4, .agg #[.bool X.b1, .slice a1 X.t1.length ac1, .slice a2 X.q1.length ac2, .bool X.b2, .slice a3 X.t2.length ac3, .slice a4 X.q2.length ac4]), (5, .agg #[.bool Y.b1, .slice u1 Y.t1.length uc1, .slice u2 Y.q1.length uc2, .bool Y.b2, .slice u3 Y.t2.length uc3, .slice u4 Y.q2.length uc4]), (10, .pointer (some ⟨g2, 0, none⟩)), (11, .pointer (some ⟨g4, 0, none⟩)), (13, .int .i64 (((n : Nat) : Int))), (14, .int .i64 (((an : Nat) : Int))), (15, .slice so10 p.length ca11), (16, .int .i64 0), (17, .int .i64 (((i : Nat) : Int))), (23, .int .u8 (((sz : Nat) : Int))), (24, .int .u8 (((n - 1 : Nat) : Int))), (25, .int .i64 (((n - 1 : Nat) : Int))), (26, .int .i64 (((n : Nat) : Int))), (27, .int .u8 (((at_ : Nat) : Int))), (28, .int .u8 (((an : Nat) : Int))), (29, .int .i64 (((an : Nat) : Int))), (30, .tuple #[.slice so10 p.length ca11, .int .i64 0]), (31, .slice so l.length ca), (32, .int .i64 (((an : Nat) : Int))), (33, .int .i64 (((n : Nat) : Int))), (34, .bool bg), (35, .agg #[.bool X.b1, .slice a1 X.t1.length ac1, .slice a2 X.q1.length ac2, .bool X.b2, .slice a3 X.t2.length ac3, .slice a4 X.q2.length ac4]), (36, .tuple #[.slice so10 p.length ca11, .int .i64 0]), (37, .slice so10 p.length ca11), (38, .int .i64 0), (39, .bool true), (40, .bool false), (41, .bool false), (42, .int .i64 0), (43, .bool false), (44, .bool false), (46, .slice so10 p.length ca11), (47, .int .i64 (((p.length : Nat) : Int))), (48, .slice so l.length ca), (49, .int .i64 (((l.length : Nat) : Int))), (50, .bool false)] ∧ St w13 w1 [] [] []) _ ⟨0, rfl, Nat.zero_le _, hA.keep _ ⟨rfl, rfl, rfl, rfl, rfl, rfl, rfl, rfl, rfl, rfl, rfl, rfl, rfl, rfl, rfl, rfl, rfl, rfl, rfl, rfl, rfl, rfl, rfl, rfl, rfl, rfl, rfl, rfl, rfl, rfl, rfl, rfl, rfl, rfl, rfl, rfl, rfl, rfl, rfl, rfl, trivial⟩, hS⟩ ?_
 clear hS hA
 rintro m a w23 ⟨i, rfl, hinv25, hA, hS⟩ K24 hK24
 have hi9 := hinv25
 refine wp_seq_k (fun K26 hK26 => ?_)
 refine wp_seq_k (fun K27 hK27 => ?_)
 refine wp_region_lit ?_
 refine seq_do hA rfl rfl rfl (does_move rfl) fun a hA => ?_
 refine seq_do hA rfl rfl rfl (does_move rfl) fun a hA => ?_
 refine seq_do (v := .int .i64 (((l.length : Nat) : Int))) hA rfl rfl rfl (does_len Tryd.underlying22 rfl) fun a hA => ?_
 rcases Bool.eq_false_or_eq_true (decide (((i : Nat) : Int) < ((l.length : Nat) : Int))) with hb28 | hb28
 ·
  have hb28' := of_decide_eq_true hb28
  refine seq_do (v := .bool true) hA rfl rfl rfl (does_bin rfl rfl (fun w => (bin_lss w).trans (by rw [hb28]))) fun a hA => ?_
  refine seq_end ?_
  refine hK27 _ _ ?_
  refine wp_cond_true (hA.ev rfl) ?_
  refine wp_skip ?_
  refine hK26 _ _ ?_
  refine wp_seq_k (fun K29 hK29 => ?_)
  refine wp_block ?_
  refine wp_seq_k (fun K30 hK30 => ?_)
  refine wp_draw (S := fun w1 => St w13 w1 [] [] []) (by kernel_rfl) ?_
  replace hS := hS.drew
  refine any_tk hA 0 rfl rfl rfl rfl hP hS (fun w1 hS => does_move rfl) fun a hA => ?_
  refine any_tk hA 1 rfl rfl rfl rfl hP hS (fun w1 hS => does_move rfl) fun a hA => ?_
  rcases Bool.eq_false_or_eq_true (decide (((i : Nat) : Int) < ((an : Nat) : Int))) with hb31 | hb31
  ·
   have hb31' := of_decide_eq_true hb31
   refine any_tk (v := .bool true) hA 2 rfl rfl rfl rfl hP hS (fun w1 hS => does_bin rfl rfl (fun w => (bin_lss w).trans (by rw [hb31]))) fun a hA => ?_
   refine any_tk hA 3 rfl rfl rfl rfl hP hS (fun w1 hS => does_move rfl) fun a hA => ?_
   refine any_sk hA 4 rfl rfl rfl rfl hP hS fun a hA => ?_
   refine any_sk hA 5 rfl rfl rfl rfl hP hS fun a hA => ?_
   refine any_sk hA 6 rfl rfl rfl rfl hP hS fun a hA => ?_
   refine any_sk hA 7 rfl rfl rfl rfl hP hS fun a hA => ?_
   refine any_sk hA 8 rfl rfl rfl rfl hP hS fun a hA => ?_
   refine any_tk (v := .bool true) hA 9 rfl rfl rfl rfl hP hS (fun w1 hS => does_pick rfl rfl rfl rfl) fun a hA => ?_
   refine any_tk hA 10 rfl rfl rfl rfl hP hS (fun w1 hS => does_move rfl) fun a hA => ?_
   refine any_tk hA 11 rfl rfl rfl rfl hP hS (fun w1 hS => does_move rfl) fun a hA => ?_
   refine any_tk hA 12 rfl rfl rfl rfl hP hS (fun w1 hS => does_move rfl) fun a hA => ?_
   obtain ⟨bx32, ox33, hx34, hx35, hx36⟩ := rb_addr (i := i) hRz14 (by omega)
   refine any_tk (v := .pointer (some ⟨bx32, ox33 + (i), none⟩)) hA 13 rfl rfl rfl rfl hP hS (fun w1 hS => does_indexRow (k := i) Tryd.underlying22 (by kernel_rfl) rfl rfl (by first | rfl | omega) hx34 (by omega)) fun a hA => ?_
   refine any_tk (v := .int .u8 ((((p.getD (i) 0).toNat : Nat) : Int))) hA 14 rfl rfl rfl rfl hP hS (fun w1 hS => does_loadB hS hx35 (hx36 (i) (by omega)) GvH_is1_5 rfl) fun a hA => ?_
   refine any_tk hA 15 rfl rfl rfl rfl hP hS (fun w1 hS => does_move rfl) fun a hA => ?_
   refine any_tk hA 16 rfl rfl rfl rfl hP hS (fun w1 hS => does_move rfl) fun a hA => ?_
   obtain ⟨bx37, ox38, hx39, hx40, hx41⟩ := rb_addr (i := i) hbz14 (by omega)
   refine any_tk (v := .pointer (some ⟨bx37, ox38 + (i), none⟩)) hA 17 rfl rfl rfl rfl hP hS (fun w1 hS => does_indexRow (k := i) Tryd.underlying22 (by kernel_rfl) rfl rfl (by first | rfl | omega) hx39 (by omega)) fun a hA => ?_
   refine any_tk (v := .int .u8 ((((l.getD (i) 0).toNat : Nat) : Int))) hA 18 rfl rfl rfl rfl hP hS (fun w1 hS => does_loadB hS hx40 (hx41 (i) (by omega)) GvH_is1_5 rfl) fun a hA => ?_
   refine any_tk (v := .bool false) hA 19 rfl rfl rfl rfl hP hS (fun w1 hS => does_bin rfl rfl (fun w => (bin_neq w).trans (by rw [show (((((p.getD (i) 0).toNat : Nat) : Int) != (((l.getD (i) 0).toNat : Nat) : Int))) = false from (bne_eq_false_iff_eq.2 (by rw [hout i (by omega)]))]))) fun a hA => ?_
   refine any_tk (v := .bool false) hA 20 rfl rfl rfl rfl hP hS (fun w1 hS => does_pick rfl rfl rfl rfl) fun a hA => ?_
   refine any_end (by kernel_rfl) ?_
   refine hK30 _ _ ?_
   refine wp_cond_false (hA.ev rfl) ?_
   refine wp_skip ?_
   refine hK29 _ _ ?_
   refine wp_region_lit ?_
   refine seq_do hA rfl rfl rfl (does_move rfl) fun a hA => ?_
   refine seq_do (v := .int .i64 (((i + 1 : Nat) : Int))) hA rfl rfl rfl (does_bin rfl rfl (fun w => (bin_add (i64In (by omega) (by omega)) w).trans (by rw [show (((i : Nat) : Int) + 1 : Int) = ((i + 1 : Nat) : Int) from by omega]))) fun a hA => ?_
   refine seq_do hA rfl rfl rfl (does_assign rfl) fun a hA => ?_
   refine seq_end ?_
   refine hK24 _ _ _ (by omega) ⟨i + 1, rfl, (by omega), hA.keep _ ⟨rfl, rfl, rfl, rfl, rfl, rfl, rfl, rfl, rfl, rfl, rfl, rfl, rfl, rfl, rfl, rfl, rfl, rfl, rfl, rfl, rfl, rfl, rfl, rfl, rfl, rfl, rfl, rfl, rfl, rfl, rfl, rfl, rfl, rfl, rfl, rfl, rfl, rfl, rfl, rfl, trivial⟩, hS⟩
  ·
   have hb31' := of_decide_eq_false hb31
   refine any_tk (v := .bool false) hA 2 rfl rfl rfl rfl hP hS (fun w1 hS => does_bin rfl rfl (fun w => (bin_lss w).trans (by rw [hb31]))) fun a hA => ?_
   refine any_tk hA 3 rfl rfl rfl rfl hP hS (fun w1 hS => does_move rfl) fun a hA => ?_
   refine any_tk hA 4 rfl rfl rfl rfl hP hS (fun w1 hS => does_move rfl) fun a hA => ?_
   refine any_tk hA 5 rfl rfl rfl rfl hP hS (fun w1 hS => does_move rfl) fun a hA => ?_
   refine any_tk hA 6 rfl rfl rfl rfl hP hS (fun w1 hS => does_move rfl) fun a hA => ?_
   refine any_tk (v := .int .i64 (((an + n : Nat) : Int))) hA 7 rfl rfl rfl rfl hP hS (fun w1 hS => does_bin rfl rfl (fun w => (bin_add (i64In (by omega) (by omega)) w).trans (by rw [show (((an : Nat) : Int) + ((n : Nat) : Int) : Int) = ((an + n : Nat) : Int) from by omega]))) fun a hA => ?_
   rcases Bool.eq_false_or_eq_true (decide (((an + n : Nat) : Int) ≤ ((i : Nat) : Int))) with hb42 | hb42
   ·
    have hb42' := of_decide_eq_true hb42
    refine any_tk (v := .bool true) hA 8 rfl rfl rfl rfl hP hS (fun w1 hS => does_bin rfl rfl (fun w => (bin_geq w).trans (by rw [hb42]))) fun a hA => ?_
    refine any_tk (v := .bool true) hA 9 rfl rfl rfl rfl hP hS (fun w1 hS => does_pick rfl rfl rfl rfl) fun a hA => ?_
    refine any_tk hA 10 rfl rfl rfl rfl hP hS (fun w1 hS => does_move rfl) fun a hA => ?_
    refine any_tk hA 11 rfl rfl rfl rfl hP hS (fun w1 hS => does_move rfl) fun a hA => ?_
    refine any_tk hA 12 rfl rfl rfl rfl hP hS (fun w1 hS => does_move rfl) fun a hA => ?_
    obtain ⟨bx43, ox44, hx45, hx46, hx47⟩ := rb_addr (i := i) hRz14 (by omega)
    refine any_tk (v := .pointer (some ⟨bx43, ox44 + (i), none⟩)) hA 13 rfl rfl rfl rfl hP hS (fun w1 hS => does_indexRow (k := i) Tryd.underlying22 (by kernel_rfl) rfl rfl (by first | rfl | omega) hx45 (by omega)) fun a hA => ?_
    refine any_tk (v := .int .u8 ((((p.getD (i) 0).toNat : Nat) : Int))) hA 14 rfl rfl rfl rfl hP hS (fun w1 hS => does_loadB hS hx46 (hx47 (i) (by omega)) GvH_is1_5 rfl) fun a hA => ?_
    refine any_tk hA 15 rfl rfl rfl rfl hP hS (fun w1 hS => does_move rfl) fun a hA => ?_
    refine any_tk hA 16 rfl rfl rfl rfl hP hS (fun w1 hS => does_move rfl) fun a hA => ?_
    obtain ⟨bx48, ox49, hx50, hx51, hx52⟩ := rb_addr (i := i) hbz14 (by omega)
    refine any_tk (v := .pointer (some ⟨bx48, ox49 + (i), none⟩)) hA 17 rfl rfl rfl rfl hP hS (fun w1 hS => does_indexRow (k := i) Tryd.underlying22 (by kernel_rfl) rfl rfl (by first | rfl | omega) hx50 (by omega)) fun a hA => ?_
    refine any_tk (v := .int .u8 ((((l.getD (i) 0).toNat : Nat) : Int))) hA 18 rfl rfl rfl rfl hP hS (fun w1 hS => does_loadB hS hx51 (hx52 (i) (by omega)) GvH_is1_5 rfl) fun a hA => ?_
    refine any_tk (v := .bool false) hA 19 rfl rfl rfl rfl hP hS (fun w1 hS => does_bin rfl rfl (fun w => (bin_neq w).trans (by rw [show (((((p.getD (i) 0).toNat : Nat) : Int) != (((l.getD (i) 0).toNat : Nat) : Int))) = false from (bne_eq_false_iff_eq.2 (by rw [hout i (by omega)]))]))) fun a hA => ?_
    refine any_tk (v := .bool false) hA 20 rfl rfl rfl rfl hP hS (fun w1 hS => does_pick rfl rfl rfl rfl) fun a hA => ?_
    refine any_end (by kernel_rfl) ?_
    refine hK30 _ _ ?_
    refine wp_cond_false (hA.ev rfl) ?_
    refine wp_skip ?_
    refine hK29 _ _ ?_
    refine wp_region_lit ?_
    refine seq_do hA rfl rfl rfl (does_move rfl) fun a hA => ?_
    refine seq_do (v := .int .i64 (((i + 1 : Nat) : Int))) hA rfl rfl rfl (does_bin rfl rfl (fun w => (bin_add (i64In (by omega) (by omega)) w).trans (by rw [show (((i : Nat) : Int) + 1 : Int) = ((i + 1 : Nat) : Int) from by omega]))) fun a hA => ?_
    refine seq_do hA rfl rfl rfl (does_assign rfl) fun a hA => ?_
    refine seq_end ?_
    refine hK24 _ _ _ (by omega) ⟨i + 1, rfl, (by omega), hA.keep _ ⟨rfl, rfl, rfl, rfl, rfl, rfl, rfl, rfl, rfl, rfl, rfl, rfl, rfl, rfl, rfl, rfl, rfl, rfl, rfl, rfl, rfl, rfl, rfl, rfl, rfl, rfl, rfl, rfl, rfl, rfl, rfl, rfl, rfl, rfl, rfl, rfl, rfl, rfl, rfl, rfl, trivial⟩, hS⟩
   ·
    have hb42' := of_decide_eq_false hb42
    refine any_tk (v := .bool false) hA 8 rfl rfl rfl rfl hP hS (fun w1 hS => does_bin rfl rfl (fun w => (bin_geq w).trans (by rw [hb42]))) fun a hA => ?_
    refine any_tk (v := .bool false) hA 9 rfl rfl rfl rfl hP hS (fun w1 hS => does_pick rfl rfl rfl rfl) fun a hA => ?_
    refine any_tk hA 10 rfl rfl rfl rfl hP hS (fun w1 hS => does_move rfl) fun a hA => ?_
    refine any_sk hA 11 rfl rfl rfl rfl hP hS fun a hA => ?_
    refine any_sk hA 12 rfl rfl rfl rfl hP hS fun a hA => ?_
    refine any_sk hA 13 rfl rfl rfl rfl hP hS fun a hA => ?_
    refine any_sk hA 14 rfl rfl rfl rfl hP hS fun a hA => ?_
    refine any_sk hA 15 rfl rfl rfl rfl hP hS fun a hA => ?_
    refine any_sk hA 16 rfl rfl rfl rfl hP hS fun a hA => ?_
    refine any_sk hA 17 rfl rfl rfl rfl hP hS fun a hA => ?_
    refine any_sk hA 18 rfl rfl rfl rfl hP hS fun a hA => ?_
    refine any_sk hA 19 rfl rfl rfl rfl hP hS fun a hA => ?_
    refine any_tk (v := .bool false) hA 20 rfl rfl rfl rfl hP hS (fun w1 hS => does_pick rfl rfl rfl rfl) fun a hA => ?_
    refine any_end (by kernel_rfl) ?_
    refine hK30 _ _ ?_
    refine wp_cond_false (hA.ev rfl) ?_
    refine wp_skip ?_
    refine hK29 _ _ ?_
    refine wp_region_lit ?_
    refine seq_do hA rfl rfl rfl (does_move rfl) fun a hA => ?_
    refine seq_do (v := .int .i64 (((i + 1 : Nat) : Int))) hA rfl rfl rfl (does_bin rfl rfl (fun w => (bin_add (i64In (by omega) (by omega)) w).trans (by rw [show (((i : Nat) : Int) + 1 : Int) = ((i + 1 : Nat) : Int) from by omega]))) fun a hA => ?_
    refine seq_do hA rfl rfl rfl (does_assign rfl) fun a hA => ?_
    refine seq_end ?_
    refine hK24 _ _ _ (by omega) ⟨i + 1, rfl, (by omega), hA.keep _ ⟨rfl, rfl, rfl, rfl, rfl, rfl, rfl, rfl, rfl, rfl, rfl, rfl, rfl, rfl, rfl, rfl, rfl, rfl, rfl, rfl, rfl, rfl, rfl, rfl, rfl, rfl, rfl, rfl, rfl, rfl, rfl, rfl, rfl, rfl, rfl, rfl, rfl, rfl, rfl, rfl, trivial⟩, hS⟩
 ·
  have hb28' := of_decide_eq_false hb28
  refine seq_do (v := .bool false) hA rfl rfl rfl (does_bin rfl rfl (fun w => (bin_lss w).trans (by rw [hb28]))) fun a hA => ?_
  refine seq_end ?_
  refine hK27 _ _ ?_
  refine wp_cond_false (hA.ev rfl) ?_
  refine wp_exit ?_
  refine hK21 _ _ ?_
  refine wp_seq_k (fun K53 hK53 => ?_)
  refine wp_region_lit ?_
  refine seq_do hA rfl rfl rfl (does_move rfl) fun a hA => ?_
  refine seq_do hA rfl rfl rfl (does_move rfl) fun a hA => ?_
  refine seq_do hA rfl rfl rfl (does_move rfl) fun a hA => ?_
  refine seq_do (v := .int .i64 (((an + n : Nat) : Int))) hA rfl rfl rfl (does_bin rfl rfl (fun w => (bin_add (i64In (by omega) (by omega)) w).trans (by rw [show (((an : Nat) : Int) + ((n : Nat) : Int) : Int) = ((an + n : Nat) : Int) from by omega]))) fun a hA => ?_
  refine seq_do hA rfl rfl rfl (does_move rfl) fun a hA => ?_
  refine seq_do hA rfl rfl rfl (does_move rfl) fun a hA => ?_
  refine seq_do hA rfl rfl rfl (does_loadSF hS hFg4z14 GvH_isS_27 rfl (cs := [.bool Y.b1, .slice u1 Y.t1.length uc1, .slice u2 Y.q1.length uc2, .bool Y.b2, .slice u3 Y.t2.length uc3, .slice u4 Y.q2.length uc4]) rfl rfl) fun a hA => ?_
  refine seq_call hA rfl rfl rfl (enters_func  rfl rfl (fun w => by kernel_rfl)) (hP2 _ _ _ (chain2 hWz14 hS.bel) (hRz14.below hS.bel) hRcz14) ?_
  rintro _ w55 ⟨rfl, hb54⟩
  replace hS := hS.call hb54
  refine ⟨_, rfl, ?_⟩
  intro a hA
  refine seq_do hA rfl rfl rfl (does_move rfl) fun a hA => ?_
  refine seq_do (v := .slice none 0 0) hA rfl rfl rfl (does_extract (vs := [.slice none 0 0, .int .i64 ec]) rfl rfl) fun a hA => ?_
  refine seq_do (v := .int .i64 ec) hA rfl rfl rfl (does_extract (vs := [.slice none 0 0, .int .i64 ec]) rfl rfl) fun a hA => ?_
  refine seq_do hA rfl rfl rfl (does_assign rfl) fun a hA => ?_
  refine seq_do hA rfl rfl rfl (does_assign rfl) fun a hA => ?_
  refine seq_end ?_
  refine hK53 _ _ ?_
  refine wp_seq_k (fun K56 hK56 => ?_)
  refine wp_seq_k (fun K57 hK57 => ?_)
  refine wp_region_lit ?_
  refine seq_do hA rfl rfl rfl (does_move rfl) fun a hA => ?_
  refine seq_do (v := .bool true) hA rfl rfl rfl (does_bin rfl rfl (fun w => (bin_neq w).trans (by rw [show ((ec != 0)) = true from (bne_iff_ne.2 hec)]))) fun a hA => ?_
  refine seq_end ?_
  refine hK57 _ _ ?_
  refine wp_cond_true (hA.ev rfl) ?_
  refine wp_seq_k (fun K58 hK58 => ?_)
  refine wp_region_lit ?_
  refine seq_do hA rfl rfl rfl (does_assign rfl) fun a hA => ?_
  refine seq_end ?_
  refine hK58 _ _ ?_
  refine wp_ret ?_
  refine hret _ _ ?_
  refine ends (v := .bool true) hA rfl (.cons (res_tmp rfl) .nil) rfl ?_
  exact ⟨rfl, chain2 hWz14 hS.bel⟩
set_option maxHeartbeats 1000000 in
theorem apart_ok {w : World} {so : Option Addr} {ca : Nat} {l : List UInt8} (hb : G.Rb w so l) (hca : l.length ≤ ca) (hl : l.length ≤ 140737488351232) {X Y : Q6} {a1 a2 a3 a4 : Option Addr} {ac1 ac2 ac3 ac4 : Nat} (ha : Nm w X a1 ac1 a2 ac2 a3 ac3 a4 ac4) (hX : LenQ X) {u1 u2 u3 u4 : Option Addr} {uc1 uc2 uc3 uc4 : Nat} (hu : Nm w Y u1 uc1 u2 uc2 u3 uc3 u4 uc4) (hY : LenQ Y) {at_ sz an n : Nat} (hat : at_ < 256) (hsz : sz < 256) (han : at_ % 40 = an) (hn : sz % 8 + 1 = n) (bg : Bool) {p : List UInt8} (hpl : p.length = l.length) (hout : ∀ i, (i < an ∨ an + n ≤ i) → p.getD i 0 = l.getD i 0) {r : List UInt8} (hrl : r.length = l.length) (hle : an + n + n ≤ l.length) (hP1 : ∀ W, Below w.heap.size w W → Calls Tryd.prog 15 #[.slice so l.length ca, .int .i64 ((an : Nat) : Int), .int .i64 ((n : Nat) : Int), .bool bg, .bool true, numV X a1 ac1 a2 ac2 a3 ac3 a4 ac4] W (fun e w' => ∃ v, e = .returned (.tuple #[v, .int .i64 0]) ∧ G.Mg W w' [.row G.BY 1 v p.length (Lib.byteCells p)])) (hP2 : ∀ W so' ca', Below w.heap.size w W → G.Rb W so' p → p.length ≤ ca' → Calls Tryd.prog 15 #[.slice so' p.length ca', .int .i64 ((an + n : Nat) : Int), .int .i64 ((n : Nat) : Int), .bool bg, .bool true, numV Y u1 uc1 u2 uc2 u3 uc3 u4 uc4] W (fun e w' => ∃ v, e = .returned (.tuple #[v, .int .i64 0]) ∧ G.Mg W w' [.row G.BY 1 v r.length (Lib.byteCells r)])) (hgx : G.numQ bg true ((r.drop an).take n) = X) (hgy : G.numQ bg true ((r.drop (an + n)).take n) = Y) (hsX : soundQ X = true) (hsY : soundQ Y = true) : Calls Tryd.prog 5 #[.slice so l.length ca, .int .u8 ((at_ : Nat) : Int), .int .u8 ((sz : Nat) : Int), .bool bg, numV X a1 ac1 a2 ac2 a3 ac3 a4 ac4, numV Y u1 uc1 u2 uc2 u3 uc3 u4 uc4] w fun e w' => e = .returned (.bool true) ∧ Below w.heap.size w w' := by
 have hn8 : n ≤ 8 := by omega
 have hn1 : 1 ≤ n := by omega
 have han40 : an < 40 := by omega
 have hS : St w w [] [(u4, Y.q2), (u3, Y.t2), (u2, Y.q1), (u1, Y.t1), (a4, X.q2), (a3, X.t2), (a2, X.q1), (a1, X.t1)] [] := ((((((((St.start w).addR ha.s1.rd).addR ha.s2.rd).addR ha.s3.rd).addR ha.s4.rd).addR hu.s1.rd).addR hu.s2.rd).addR hu.s3.rd).addR hu.s4.rd
 refine walk_of (l := [(0, .slice so l.length ca), (1, .int .u8 (((at_ : Nat) : Int))), (2, .int .u8 (((sz : Nat) : Int))), (3, .bool bg), (4, .agg #[.bool X.b1, .slice a1 X.t1.length ac1, .slice a2 X.q1.length ac2, .bool X.b2, .slice a3 X.t2.length ac3, .slice a4 X.q2.length ac4]), (5, .agg #[.bool Y.b1, .slice u1 Y.t1.length uc1, .slice u2 Y.q1.length uc2, .bool Y.b2, .slice u3 Y.t2.length uc3, .slice u4 Y.q2.length uc4])]) Tryd.func5 rfl Tryd.ntmps5 rfl rfl ?_
 intro Q hret hnorm hP a hA
 refine wp_seq_k (fun K1 hK1 => ?_)
 refine wp_region_lit ?_
 refine seq_new hA hS rfl rfl rfl (fun g => .pointer (some ⟨g, 0, none⟩)) (does_box rfl rfl) rfl ?_
 intro g2 w3 hS a hA
 refine seq_new hA hS rfl rfl rfl (fun g => .pointer (some ⟨g, 0, none⟩)) (does_box rfl rfl) rfl ?_
 intro g4 w5 hS a hA
 refine seq_do hA rfl rfl rfl (does_assign rfl) fun a hA => ?_
 refine seq_end ?_
 refine hK1 _ _ ?_
 refine wp_seq_k (fun K6 hK6 => ?_)
 refine wp_region_lit ?_
 refine seq_do hA rfl rfl rfl (does_move rfl) fun a hA => ?_
 refine seq_do (v := .int .u8 (((n - 1 : Nat) : Int))) hA rfl rfl rfl (does_bin rfl rfl (ar_rem (by decide) ((Int.tmod_eq_emod_of_nonneg (by omega)).trans (by omega)))) fun a hA => ?_
 refine seq_do (v := .int .i64 (((n - 1 : Nat) : Int))) hA rfl rfl rfl (does_convert rfl (ar_conv Tryd.underlying5 Tryd.underlying3 (in_i64 (by omega) (by omega)))) fun a hA => ?_
 refine seq_do (v := .int .i64 (((n : Nat) : Int))) hA rfl rfl rfl (does_bin rfl rfl (ar_add ((in_i64 (by omega) (by omega)).trans (by omega)))) fun a hA => ?_
 refine seq_do hA rfl rfl rfl (does_assign rfl) fun a hA => ?_
 refine seq_end ?_
 refine hK6 _ _ ?_
 refine wp_seq_k (fun K7 hK7 => ?_)
 refine wp_region_lit ?_
 refine seq_do hA rfl rfl rfl (does_move rfl) fun a hA => ?_
 refine seq_do (v := .int .u8 (((an : Nat) : Int))) hA rfl rfl rfl (does_bin rfl rfl (ar_rem (by decide) ((Int.tmod_eq_emod_of_nonneg (by omega)).trans (by omega)))) fun a hA => ?_
 refine seq_do (v := .int .i64 (((an : Nat) : Int))) hA rfl rfl rfl (does_convert rfl (ar_conv Tryd.underlying5 Tryd.underlying3 (in_i64 (by omega) (by omega)))) fun a hA => ?_
 refine seq_do hA rfl rfl rfl (does_assign rfl) fun a hA => ?_
 refine seq_end ?_
 refine hK7 _ _ ?_
 refine wp_seq_k (fun K8 hK8 => ?_)
 refine wp_region_lit ?_
 refine seq_do hA rfl rfl rfl (does_move rfl) fun a hA => ?_
 refine seq_do hA rfl rfl rfl (does_move rfl) fun a hA => ?_
 refine seq_do hA rfl rfl rfl (does_move rfl) fun a hA => ?_
 refine seq_do hA rfl rfl rfl (does_move rfl) fun a hA => ?_
 refine seq_do hA rfl rfl rfl (does_loadS hS GvH_isS_27 rfl 1 rfl (cs := [.bool X.b1, .slice a1 X.t1.length ac1, .slice a2 X.q1.length ac2, .bool X.b2, .slice a3 X.t2.length ac3, .slice a4 X.q2.length ac4]) rfl rfl) fun a hA => ?_
 refine seq_call hA rfl rfl rfl (enters_func  rfl rfl (fun w => by kernel_rfl)) (hP1 _ hS.bel) ?_
 rintro _ w13 ⟨v9, rfl, hM12⟩
 obtain ⟨so10, ca11, rfl⟩ := G.owns_slice (hM12.has 0 rfl)
 replace hS := hS.call hM12.bel
 refine ⟨_, rfl, ?_⟩
 intro a hA
 have hWz14 : Below w.heap.size w w13 := hS.bel
 have hFg4z14 : Blk w13 g4 [.bool Y.b1, .slice u1 Y.t1.length uc1, .slice u2 Y.q1.length uc2, .bool Y.b2, .slice u3 Y.t2.length uc3, .slice u4 Y.q2.length uc4] := (hS.own (g4, [.bool Y.b1, .slice u1 Y.t1.length uc1, .slice u2 Y.q1.length uc2, .bool Y.b2, .slice u3 Y.t2.length uc3, .slice u4 Y.q2.length uc4]) (by simp)).2
 have hFg2z14 : Blk w13 g2 [.bool X.b1, .slice a1 X.t1.length ac1, .slice a2 X.q1.length ac2, .bool X.b2, .slice a3 X.t2.length ac3, .slice a4 X.q2.length ac4] := (hS.own (g2, [.bool X.b1, .slice a1 X.t1.length ac1, .slice a2 X.q1.length ac2, .bool X.b2, .slice a3 X.t2.length ac3, .slice a4 X.q2.length ac4]) (by simp)).2
 have hXwz14 := G.nm_below ha hWz14
 have hYwz14 := G.nm_below hu hWz14
 have hbz14 := hb.below hS.bel
 have hRz14 : G.Rb w13 so10 p := (G.rb_row (bs := p) hM12 0 rfl).1
 have hRcz14 := G.own_cap hM12 0 rfl
 clear hS
 have hS : St w13 w13 [] [] [] := St.start w13
 refine seq_do hA rfl rfl rfl (does_move rfl) fun a hA => ?_
 refine seq_do (v := .slice so10 p.length ca11) hA rfl rfl rfl (does_extract (vs := [.slice so10 p.length ca11, .int .i64 0]) rfl rfl) fun a hA => ?_
 refine seq_do (v := .int .i64 0) hA rfl rfl rfl (does_extract (vs := [.slice so10 p.length ca11, .int .i64 0]) rfl rfl) fun a hA => ?_
 refine seq_do hA rfl rfl rfl (does_assign rfl) fun a hA => ?_
 refine seq_do hA rfl rfl rfl (does_assign rfl) fun a hA => ?_
 refine seq_end ?_
 refine hK8 _ _ ?_
 refine wp_seq_k (fun K15 hK15 => ?_)
 refine wp_seq_k (fun K16 hK16 => ?_)
 refine wp_region_lit ?_
 refine seq_call hA rfl rfl rfl (enters_func  rfl rfl (fun w => by kernel_rfl)) (G.awake5_any) ?_
 rintro _ w18 ⟨rfl, hb17⟩
 replace hS := hS.call hb17
 refine ⟨_, rfl, ?_⟩
 intro a hA
 refine seq_do (v := .bool false) hA rfl rfl rfl (does_un rfl un_not) fun a hA => ?_
 refine seq_do hA rfl rfl rfl (does_move rfl) fun a hA => ?_
 refine seq_do hA rfl rfl rfl (does_move rfl) fun a hA => ?_
 refine seq_do (v := .bool false) hA rfl rfl rfl (does_bin rfl rfl (fun w => by kernel_rfl)) fun a hA => ?_
 refine seq_do (v := .bool false) hA rfl rfl rfl (does_pick rfl rfl rfl rfl) fun a hA => ?_
 refine seq_end ?_
 refine hK16 _ _ ?_
 refine wp_cond_false (hA.ev rfl) ?_
 refine wp_skip ?_
 refine hK15 _ _ ?_
 refine wp_seq_k (fun K19 hK19 => ?_)
 refine wp_seq_k (fun K20 hK20 => ?_)
 refine wp_region_lit ?_
 refine seq_do hA rfl rfl rfl (does_move rfl) fun a hA => ?_
 refine seq_do (v := .int .i64 (((p.length : Nat) : Int))) hA rfl rfl rfl (does_len Tryd.underlying22 rfl) fun a hA => ?_
 refine seq_do hA rfl rfl rfl (does_move rfl) fun a hA => ?_
 refine seq_do (v := .int .i64 (((l.length : Nat) : Int))) hA rfl rfl rfl (does_len Tryd.underlying22 rfl) fun a hA => ?_
 refine seq_do (v := .bool false) hA rfl rfl rfl (does_bin rfl rfl (fun w => (bin_neq w).trans (by rw [show ((((p.length : Nat) : Int) != ((l.length : Nat) : Int))) = false from (bne_eq_false_iff_eq.2 (by omega))]))) fun a hA => ?_
 refine seq_end ?_
 refine hK20 _ _ ?_
 refine wp_cond_false (hA.ev rfl) ?_
 refine wp_skip ?_
 refine hK19 _ _ ?_
 refine wp_seq_k (fun K21 hK21 => ?_)
 refine wp_seq_k (fun K22 hK22 => ?_)
 refine wp_region_lit ?_
 refine seq_do hA rfl rfl rfl (does_assign rfl) fun a hA => ?_
 refine seq_end ?_
 refine hK22 _ _ ?_
 refine wp_block ?_
 refine wp_loop_n (fun m a w1 => ∃ (i : Nat), m = 1 + (l.length - i) ∧ (i ≤ l.length) ∧ Sl a 125 [(0, .slice so l.length ca), (1, .int .u8 (((at_ : Nat) : Int))), (2, .int .u8 (((sz : Nat) : Int))), (3, .bool bg), (4, .agg #[.bool X.b1, .slice a1 X.t1.length ac1, .slice a2 X.q1.length ac2, .bool X.b2, .slice a3 X.t2.length ac3, .slice a4 X.q2.length ac4]), (5, .agg #[.bool Y.b1, .slice u1 Y.t1.length uc1, .slice u2 Y.q1.length uc2, .bool Y.b2, .slice u3 Y.t2.length uc3, .slice u4 Y.q2.length uc4]), (10, .pointer (some ⟨g2, 0, none⟩)), (11, .pointer (some ⟨g4, 0, none⟩)), (13, .int .i64 (((n : Nat) : Int))), (14, .int .i64 (((an : Nat) : Int))), (15, .slice so10 p.length ca11), (16, .int .i64 0), (17, .int .i64 (((i : Nat) : Int))), (23, .int .u8 (((sz : Nat) : Int))), (24, .int .u8 (((n - 1 : Nat) : Int))), (25, .int .i64 (((n - 1 : Nat) : Int))), (26, .int .i64 (((n : Nat) : Int))), (27, .int .u8 (((at_ : Nat) : Int))), (28, .int .u8 (((an : Nat) : Int))), (29, .int .i64 (((an : Nat) : Int))), (30, .tuple #[.slice so10 p.length ca11, .int .i64 0]), (31, .slice so l.length ca), (32, .int .i64 (((an : Nat) : Int))), (33, .int .i64 (((n : Nat) : Int))), (34, .bool bg), (35, .agg #[.bool X.b1, .slice a1 X.t1.length ac1, .slice a2 X.q1.length ac2, .bool X.b2, .slice a3 X.t2.length ac3, .slice a4 X.q2.length ac4]), (36, .tuple #[.slice so10 p.length ca11, .int .i64 0]), (37, .slice so10 p.length ca11), (38, .int .i64 0), (39, .bool true), (40, .bool false), (41, .bool false), (42, .int .i64 0), (43, .bool false), (44, .bool false), (46, .slice so10 p.length ca11), (47, .int .i64 (((p.length : Nat) : Int))), (48, .slice so l.length ca), (49, .int .i64 (((l.length : Nat) : Int))), (50, .bool false)] ∧ St w13 w1 [] [] []) _ ⟨0, rfl, Nat.zero_le _, hA.keep _ ⟨rfl, rfl, rfl, rfl, rfl, rfl, rfl, rfl, rfl, rfl, rfl, rfl, rfl, rfl, rfl, rfl, rfl, rfl, rfl, rfl, rfl, rfl, rfl, rfl, rfl, rfl, rfl, rfl, rfl, rfl, rfl, rfl, rfl, rfl, rfl, rfl, rfl, rfl, rfl, rfl, trivial⟩, hS⟩ ?_
 clear hS hA
 rintro m a w23 ⟨i, rfl, hinv25, hA, hS⟩ K24 hK24
 have hi9 := hinv25
 refine wp_seq_k (fun K26 hK26 => ?_)
 refine wp_seq_k (fun K27 hK27 => ?_)
 refine wp_region_lit ?_
 refine seq_do hA rfl rfl rfl (does_move rfl) fun a hA => ?_
 refine seq_do hA rfl rfl rfl (does_move rfl) fun a hA => ?_
 refine seq_do (v := .int .i64 (((l.length : Nat) : Int))) hA rfl rfl rfl (does_len Tryd.underlying22 rfl) fun a hA => ?_
 rcases Bool.eq_false_or_eq_true (decide (((i : Nat) : Int) < ((l.length : Nat) : Int))) with hb28 | hb28
 ·
  have hb28' := of_decide_eq_true hb28
  refine seq_do (v := .bool true) hA rfl rfl rfl (does_bin rfl rfl (fun w => (bin_lss w).trans (by rw [hb28]))) fun a hA => ?_
  refine seq_end ?_
  refine hK27 _ _ ?_
  refine wp_cond_true (hA.ev rfl) ?_
  refine wp_skip ?_
  refine hK26 _ _ ?_
  refine wp_seq_k (fun K29 hK29 => ?_)
  refine wp_block ?_
  refine wp_seq_k (fun K30 hK30 => ?_)
  refine wp_draw (S := fun w1 => St w13 w1 [] [] []) (by kernel_rfl) ?_
  replace hS := hS.drew
  refine any_tk hA 0 rfl rfl rfl rfl hP hS (fun w1 hS => does_move rfl) fun a hA => ?_
  refine any_tk hA 1 rfl rfl rfl rfl hP hS (fun w1 hS => does_move rfl) fun a hA => ?_
  rcases Bool.eq_false_or_eq_true (decide (((i : Nat) : Int) < ((an : Nat) : Int))) with hb31 | hb31
  ·
   have hb31' := of_decide_eq_true hb31
   refine any_tk (v := .bool true) hA 2 rfl rfl rfl rfl hP hS (fun w1 hS => does_bin rfl rfl (fun w => (bin_lss w).trans (by rw [hb31]))) fun a hA => ?_
   refine any_tk hA 3 rfl rfl rfl rfl hP hS (fun w1 hS => does_move rfl) fun a hA => ?_
   refine any_sk hA 4 rfl rfl rfl rfl hP hS fun a hA => ?_
   refine any_sk hA 5 rfl rfl rfl rfl hP hS fun a hA => ?_
   refine any_sk hA 6 rfl rfl rfl rfl hP hS fun a hA => ?_
   refine any_sk hA 7 rfl rfl rfl rfl hP hS fun a hA => ?_
   refine any_sk hA 8 rfl rfl rfl rfl hP hS fun a hA => ?_
   refine any_tk (v := .bool true) hA 9 rfl rfl rfl rfl hP hS (fun w1 hS => does_pick rfl rfl rfl rfl) fun a hA => ?_
   refine any_tk hA 10 rfl rfl rfl rfl hP hS (fun w1 hS => does_move rfl) fun a hA => ?_
   refine any_tk hA 11 rfl rfl rfl rfl hP hS (fun w1 hS => does_move rfl) fun a hA => ?_
   refine any_tk hA 12 rfl rfl rfl rfl hP hS (fun w1 hS => does_move rfl) fun a hA => ?_
   obtain ⟨bx32, ox33, hx34, hx35, hx36⟩ := rb_addr (i := i) hRz14 (by omega)
   refine any_tk (v := .pointer (some ⟨bx32, ox33 + (i), none⟩)) hA 13 rfl rfl rfl rfl hP hS (fun w1 hS => does_indexRow (k := i) Tryd.underlying22 (by kernel_rfl) rfl rfl (by first | rfl | omega) hx34 (by omega)) fun a hA => ?_
   refine any_tk (v := .int .u8 ((((p.getD (i) 0).toNat : Nat) : Int))) hA 14 rfl rfl rfl rfl hP hS (fun w1 hS => does_loadB hS hx35 (hx36 (i) (by omega)) GvH_is1_5 rfl) fun a hA => ?_
   refine any_tk hA 15 rfl rfl rfl rfl hP hS (fun w1 hS => does_move rfl) fun a hA => ?_
   refine any_tk hA 16 rfl rfl rfl rfl hP hS (fun w1 hS => does_move rfl) fun a hA => ?_
   obtain ⟨bx37, ox38, hx39, hx40, hx41⟩ := rb_addr (i := i) hbz14 (by omega)
   refine any_tk (v := .pointer (some ⟨bx37, ox38 + (i), none⟩)) hA 17 rfl rfl rfl rfl hP hS (fun w1 hS => does_indexRow (k := i) Tryd.underlying22 (by kernel_rfl) rfl rfl (by first | rfl | omega) hx39 (by omega)) fun a hA => ?_
   refine any_tk (v := .int .u8 ((((l.getD (i) 0).toNat : Nat) : Int))) hA 18 rfl rfl rfl rfl hP hS (fun w1 hS => does_loadB hS hx40 (hx41 (i) (by omega)) GvH_is1_5 rfl) fun a hA => ?_
   refine any_tk (v := .bool false) hA 19 rfl rfl rfl rfl hP hS (fun w1 hS => does_bin rfl rfl (fun w => (bin_neq w).trans (by rw [show (((((p.getD (i) 0).toNat : Nat) : Int) != (((l.getD (i) 0).toNat : Nat) : Int))) = false from (bne_eq_false_iff_eq.2 (by rw [hout i (by omega)]))]))) fun a hA => ?_
   refine any_tk (v := .bool false) hA 20 rfl rfl rfl rfl hP hS (fun w1 hS => does_pick rfl rfl rfl rfl) fun a hA => ?_
   refine any_end (by kernel_rfl) ?_
   refine hK30 _ _ ?_
   refine wp_cond_false (hA.ev rfl) ?_
   refine wp_skip ?_
   refine hK29 _ _ ?_
   refine wp_region_lit ?_
   refine seq_do hA rfl rfl rfl (does_move rfl) fun a hA => ?_
   refine seq_do (v := .int .i64 (((i + 1 : Nat) : Int))) hA rfl rfl rfl (does_bin rfl rfl (fun w => (bin_add (i64In (by omega) (by omega)) w).trans (by rw [show (((i : Nat) : Int) + 1 : Int) = ((i + 1 : Nat) : Int) from by omega]))) fun a hA => ?_
   refine seq_do hA rfl rfl rfl (does_assign rfl) fun a hA => ?_
   refine seq_end ?_
   refine hK24 _ _ _ (by omega) ⟨i + 1, rfl, (by omega), hA.keep _ ⟨rfl, rfl, rfl, rfl, rfl, rfl, rfl, rfl, rfl, rfl, rfl, rfl, rfl, rfl, rfl, rfl, rfl, rfl, rfl, rfl, rfl, rfl, rfl, rfl, rfl, rfl, rfl, rfl, rfl, rfl, rfl, rfl, rfl, rfl, rfl, rfl, rfl, rfl, rfl, rfl, trivial⟩, hS⟩
  ·
   have hb31' := of_decide_eq_false hb31
   refine any_tk (v := .bool false) hA 2 rfl rfl rfl rfl hP hS (fun w1 hS => does_bin rfl rfl (fun w => (bin_lss w).trans (by rw [hb31]))) fun a hA => ?_
   refine any_tk hA 3 rfl rfl rfl rfl hP hS (fun w1 hS => does_move rfl) fun a hA => ?_
   refine any_tk hA 4 rfl rfl rfl rfl hP hS (fun w1 hS => does_move rfl) fun a hA => ?_
   refine any_tk hA 5 rfl rfl rfl rfl hP hS (fun w1 hS => does_move rfl) fun a hA => ?_
   refine any_tk hA 6 rfl rfl rfl rfl hP hS (fun w1 hS => does_move rfl) fun a hA => ?_
   refine any_tk (v := .int .i64 (((an + n : Nat) : Int))) hA 7 rfl rfl rfl rfl hP hS (fun w1 hS => does_bin rfl rfl (fun w => (bin_add (i64In (by omega) (by omega)) w).trans (by rw [show (((an : Nat) : Int) + ((n : Nat) : Int) : Int) = ((an + n : Nat) : Int) from by omega]))) fun a hA => ?_
   rcases Bool.eq_false_or_eq_true (decide (((an + n : Nat) : Int) ≤ ((i : Nat) : Int))) with hb42 | hb42
   ·
    have hb42' := of_decide_eq_true hb42
    refine any_tk (v := .bool true) hA 8 rfl rfl rfl rfl hP hS (fun w1 hS => does_bin rfl rfl (fun w => (bin_geq w).trans (by rw [hb42]))) fun a hA => ?_
    refine any_tk (v := .bool true) hA 9 rfl rfl rfl rfl hP hS (fun w1 hS => does_pick rfl rfl rfl rfl) fun a hA => ?_
    refine any_tk hA 10 rfl rfl rfl rfl hP hS (fun w1 hS => does_move rfl) fun a hA => ?_
    refine any_tk hA 11 rfl rfl rfl rfl hP hS (fun w1 hS => does_move rfl) fun a hA => ?_
    refine any_tk hA 12 rfl rfl rfl rfl hP hS (fun w1 hS => does_move rfl) fun a hA => ?_
    obtain ⟨bx43, ox44, hx45, hx46, hx47⟩ := rb_addr (i := i) hRz14 (by omega)
    refine any_tk (v := .pointer (some ⟨bx43, ox44 + (i), none⟩)) hA 13 rfl rfl rfl rfl hP hS (fun w1 hS => does_indexRow (k := i) Tryd.underlying22 (by kernel_rfl) rfl rfl (by first | rfl | omega) hx45 (by omega)) fun a hA => ?_
    refine any_tk (v := .int .u8 ((((p.getD (i) 0).toNat : Nat) : Int))) hA 14 rfl rfl rfl rfl hP hS (fun w1 hS => does_loadB hS hx46 (hx47 (i) (by omega)) GvH_is1_5 rfl) fun a hA => ?_
    refine any_tk hA 15 rfl rfl rfl rfl hP hS (fun w1 hS => does_move rfl) fun a hA => ?_
    refine any_tk hA 16 rfl rfl rfl rfl hP hS (fun w1 hS => does_move rfl) fun a hA => ?_
    obtain ⟨bx48, ox49, hx50, hx51, hx52⟩ := rb_addr (i := i) hbz14 (by omega)
    refine any_tk (v := .pointer (some ⟨bx48, ox49 + (i), none⟩)) hA 17 rfl rfl rfl rfl hP hS (fun w1 hS => does_indexRow (k := i) Tryd.underlying22 (by kernel_rfl) rfl rfl (by first | rfl | omega) hx50 (by omega)) fun a hA => ?_
    refine any_tk (v := .int .u8 ((((l.getD (i) 0).toNat : Nat) : Int))) hA 18 rfl rfl rfl rfl hP hS (fun w1 hS => does_loadB hS hx51 (hx52 (i) (by omega)) GvH_is1_5 rfl) fun a hA => ?_
    refine any_tk (v := .bool false) hA 19 rfl rfl rfl rfl hP hS (fun w1 hS => does_bin rfl rfl (fun w => (bin_neq w).trans (by rw [show (((((p.getD (i) 0).toNat : Nat) : Int) != (((l.getD (i) 0).toNat : Nat) : Int))) = false from (bne_eq_false_iff_eq.2 (by rw [hout i (by omega)]))]))) fun a hA => ?_
    refine any_tk (v := .bool false) hA 20 rfl rfl rfl rfl hP hS (fun w1 hS => does_pick rfl rfl rfl rfl) fun a hA => ?_
    refine any_end (by kernel_rfl) ?_
    refine hK30 _ _ ?_
    refine wp_cond_false (hA.ev rfl) ?_
    refine wp_skip ?_
    refine hK29 _ _ ?_
    refine wp_region_lit ?_
    refine seq_do hA rfl rfl rfl (does_move rfl) fun a hA => ?_
    refine seq_do (v := .int .i64 (((i + 1 : Nat) : Int))) hA rfl rfl rfl (does_bin rfl rfl (fun w => (bin_add (i64In (by omega) (by omega)) w).trans (by rw [show (((i : Nat) : Int) + 1 : Int) = ((i + 1 : Nat) : Int) from by omega]))) fun a hA => ?_
    refine seq_do hA rfl rfl rfl (does_assign rfl) fun a hA => ?_
    refine seq_end ?_
    refine hK24 _ _ _ (by omega) ⟨i + 1, rfl, (by omega), hA.keep _ ⟨rfl, rfl, rfl, rfl, rfl, rfl, rfl, rfl, rfl, rfl, rfl, rfl, rfl, rfl, rfl, rfl, rfl, rfl, rfl, rfl, rfl, rfl, rfl, rfl, rfl, rfl, rfl, rfl, rfl, rfl, rfl, rfl, rfl, rfl, rfl, rfl, rfl, rfl, rfl, rfl, trivial⟩, hS⟩
   ·
    have hb42' := of_decide_eq_false hb42
    refine any_tk (v := .bool false) hA 8 rfl rfl rfl rfl hP hS (fun w1 hS => does_bin rfl rfl (fun w => (bin_geq w).trans (by rw [hb42]))) fun a hA => ?_
    refine any_tk (v := .bool false) hA 9 rfl rfl rfl rfl hP hS (fun w1 hS => does_pick rfl rfl rfl rfl) fun a hA => ?_
    refine any_tk hA 10 rfl rfl rfl rfl hP hS (fun w1 hS => does_move rfl) fun a hA => ?_
    refine any_sk hA 11 rfl rfl rfl rfl hP hS fun a hA => ?_
    refine any_sk hA 12 rfl rfl rfl rfl hP hS fun a hA => ?_
    refine any_sk hA 13 rfl rfl rfl rfl hP hS fun a hA => ?_
    refine any_sk hA 14 rfl rfl rfl rfl hP hS fun a hA => ?_
    refine any_sk hA 15 rfl rfl rfl rfl hP hS fun a hA => ?_
    refine any_sk hA 16 rfl rfl rfl rfl hP hS fun a hA => ?_
    refine any_sk hA 17 rfl rfl rfl rfl hP hS fun a hA => ?_
    refine any_sk hA 18 rfl rfl rfl rfl hP hS fun a hA => ?_
    refine any_sk hA 19 rfl rfl rfl rfl hP hS fun a hA => ?_
    refine any_tk (v := .bool false) hA 20 rfl rfl rfl rfl hP hS (fun w1 hS => does_pick rfl rfl rfl rfl) fun a hA => ?_
    refine any_end (by kernel_rfl) ?_
    refine hK30 _ _ ?_
    refine wp_cond_false (hA.ev rfl) ?_
    refine wp_skip ?_
    refine hK29 _ _ ?_
    refine wp_region_lit ?_
    refine seq_do hA rfl rfl rfl (does_move rfl) fun a hA => ?_
    refine seq_do (v := .int .i64 (((i + 1 : Nat) : Int))) hA rfl rfl rfl (does_bin rfl rfl (fun w => (bin_add (i64In (by omega) (by omega)) w).trans (by rw [show (((i : Nat) : Int) + 1 : Int) = ((i + 1 : Nat) : Int) from by omega]))) fun a hA => ?_
    refine seq_do hA rfl rfl rfl (does_assign rfl) fun a hA => ?_
    refine seq_end ?_
    refine hK24 _ _ _ (by omega) ⟨i + 1, rfl, (by omega), hA.keep _ ⟨rfl, rfl, rfl, rfl, rfl, rfl, rfl, rfl, rfl, rfl, rfl, rfl, rfl, rfl, rfl, rfl, rfl, rfl, rfl, rfl, rfl, rfl, rfl, rfl, rfl, rfl, rfl, rfl, rfl, rfl, rfl, rfl, rfl, rfl, rfl, rfl, rfl, rfl, rfl, rfl, trivial⟩, hS⟩
 ·
  have hb28' := of_decide_eq_false hb28
  refine seq_do (v := .bool false) hA rfl rfl rfl (does_bin rfl rfl (fun w => (bin_lss w).trans (by rw [hb28]))) fun a hA => ?_
  refine seq_end ?_
  refine hK27 _ _ ?_
  refine wp_cond_false (hA.ev rfl) ?_
  refine wp_exit ?_
  refine hK21 _ _ ?_
  refine wp_seq_k (fun K53 hK53 => ?_)
  refine wp_region_lit ?_
  refine seq_do hA rfl rfl rfl (does_move rfl) fun a hA => ?_
  refine seq_do hA rfl rfl rfl (does_move rfl) fun a hA => ?_
  refine seq_do hA rfl rfl rfl (does_move rfl) fun a hA => ?_
  refine seq_do (v := .int .i64 (((an + n : Nat) : Int))) hA rfl rfl rfl (does_bin rfl rfl (fun w => (bin_add (i64In (by omega) (by omega)) w).trans (by rw [show (((an : Nat) : Int) + ((n : Nat) : Int) : Int) = ((an + n : Nat) : Int) from by omega]))) fun a hA => ?_
  refine seq_do hA rfl rfl rfl (does_move rfl) fun a hA => ?_
  refine seq_do hA rfl rfl rfl (does_move rfl) fun a hA => ?_
  refine seq_do hA rfl rfl rfl (does_loadSF hS hFg4z14 GvH_isS_27 rfl (cs := [.bool Y.b1, .slice u1 Y.t1.length uc1, .slice u2 Y.q1.length uc2, .bool Y.b2, .slice u3 Y.t2.length uc3, .slice u4 Y.q2.length uc4]) rfl rfl) fun a hA => ?_
  refine seq_call hA rfl rfl rfl (enters_func  rfl rfl (fun w => by kernel_rfl)) (hP2 _ _ _ (chain2 hWz14 hS.bel) (hRz14.below hS.bel) hRcz14) ?_
  rintro _ w58 ⟨v54, rfl, hM57⟩
  obtain ⟨so55, ca56, rfl⟩ := G.owns_slice (hM57.has 0 rfl)
  replace hS := hS.call hM57.bel
  refine ⟨_, rfl, ?_⟩
  intro a hA
  have hWz59 : Below w.heap.size w w58 := chain2 hWz14 hS.bel
  have hFg4z14z59 := hFg4z14.below hS.bel
  have hFg2z14z59 := hFg2z14.below hS.bel
  have hXwz59 := G.nm_below ha hWz59
  have hYwz59 := G.nm_below hu hWz59
  have hbz14z59 := hbz14.below hS.bel
  have hRz14z59 := hRz14.below hS.bel
  have hRz59 : G.Rb w58 so55 r := (G.rb_row (bs := r) hM57 0 rfl).1
  have hRcz59 := G.own_cap hM57 0 rfl
  clear hS
  have hS : St w58 w58 [] [] [] := St.start w58
  refine seq_do hA rfl rfl rfl (does_move rfl) fun a hA => ?_
  refine seq_do (v := .slice so55 r.length ca56) hA rfl rfl rfl (does_extract (vs := [.slice so55 r.length ca56, .int .i64 0]) rfl rfl) fun a hA => ?_
  refine seq_do (v := .int .i64 0) hA rfl rfl rfl (does_extract (vs := [.slice so55 r.length ca56, .int .i64 0]) rfl rfl) fun a hA => ?_
  refine seq_do hA rfl rfl rfl (does_assign rfl) fun a hA => ?_
  refine seq_do hA rfl rfl rfl (does_assign rfl) fun a hA => ?_
  refine seq_end ?_
  refine hK53 _ _ ?_
  refine wp_seq_k (fun K60 hK60 => ?_)
  refine wp_seq_k (fun K61 hK61 => ?_)
  refine wp_region_lit ?_
  refine seq_do hA rfl rfl rfl (does_move rfl) fun a hA => ?_
  refine seq_do (v := .bool false) hA rfl rfl rfl (does_bin rfl rfl (fun w => by kernel_rfl)) fun a hA => ?_
  refine seq_end ?_
  refine hK61 _ _ ?_
  refine wp_cond_false (hA.ev rfl) ?_
  refine wp_skip ?_
  refine hK60 _ _ ?_
  refine wp_seq_k (fun K62 hK62 => ?_)
  refine wp_region_lit ?_
  refine seq_do hA rfl rfl rfl (does_move rfl) fun a hA => ?_
  refine seq_do hA rfl rfl rfl (does_move rfl) fun a hA => ?_
  refine seq_do hA rfl rfl rfl (does_move rfl) fun a hA => ?_
  refine seq_do hA rfl rfl rfl (does_move rfl) fun a hA => ?_
  refine seq_call hA rfl rfl rfl (enters_func  rfl rfl (fun w => by kernel_rfl)) ((hgx ▸ get_ok (an := an) (nn := n) (hRz59.below hS.bel) hRcz59 (by omega) (by omega) (by omega) (by omega) bg true)) ?_
  rintro _ w66 ⟨p63_1, p63_c1, p63_2, p63_c2, p63_3, p63_c3, p63_4, p63_c4, rfl, hn64, hb65⟩
  replace hS := hS.call hb65
  replace hS := hS.addR hn64.s1.rd
  replace hS := hS.addR hn64.s2.rd
  replace hS := hS.addR hn64.s3.rd
  replace hS := hS.addR hn64.s4.rd
  refine ⟨_, rfl, ?_⟩
  intro a hA
  refine seq_do hA rfl rfl rfl (does_move rfl) fun a hA => ?_
  refine seq_do (v := .agg #[.bool X.b1, .slice p63_1 X.t1.length p63_c1, .slice p63_2 X.q1.length p63_c2, .bool X.b2, .slice p63_3 X.t2.length p63_c3, .slice p63_4 X.q2.length p63_c4]) hA rfl rfl rfl (does_extract (vs := [.agg #[.bool X.b1, .slice p63_1 X.t1.length p63_c1, .slice p63_2 X.q1.length p63_c2, .bool X.b2, .slice p63_3 X.t2.length p63_c3, .slice p63_4 X.q2.length p63_c4], .int .i64 0]) rfl rfl) fun a hA => ?_
  refine seq_do (v := .int .i64 0) hA rfl rfl rfl (does_extract (vs := [.agg #[.bool X.b1, .slice p63_1 X.t1.length p63_c1, .slice p63_2 X.q1.length p63_c2, .bool X.b2, .slice p63_3 X.t2.length p63_c3, .slice p63_4 X.q2.length p63_c4], .int .i64 0]) rfl rfl) fun a hA => ?_
  refine seq_new (vs := [.bool false, .slice none 0 0, .slice none 0 0, .bool false, .slice none 0 0, .slice none 0 0]) (t := 27) hA hS rfl rfl rfl (fun g => .pointer (some ⟨g, 0, none⟩)) (does_alloc (z := .agg #[.bool false, .slice none 0 0, .slice none 0 0, .bool false, .slice none 0 0, .slice none 0 0]) (by kernel_rfl) rfl) rfl ?_
  intro g67 w68 hS a hA
  refine seq_store (us := [.bool X.b1, .slice p63_1 X.t1.length p63_c1, .slice p63_2 X.q1.length p63_c2, .bool X.b2, .slice p63_3 X.t2.length p63_c3, .slice p63_4 X.q2.length p63_c4]) hA hS rfl rfl (sets_store rfl rfl rfl (by kernel_rfl) hS 0 rfl rfl rfl) 0 rfl rfl rfl rfl ?_
  intro w69 hS
  refine seq_do hA rfl rfl rfl (does_assign rfl) fun a hA => ?_
  refine seq_end ?_
  refine hK62 _ _ ?_
  refine wp_seq_k (fun K70 hK70 => ?_)
  refine wp_region_lit ?_
  refine seq_do hA rfl rfl rfl (does_move rfl) fun a hA => ?_
  refine seq_do hA rfl rfl rfl (does_move rfl) fun a hA => ?_
  refine seq_do hA rfl rfl rfl (does_move rfl) fun a hA => ?_
  refine seq_do (v := .int .i64 (((an + n : Nat) : Int))) hA rfl rfl rfl (does_bin rfl rfl (fun w => (bin_add (i64In (by omega) (by omega)) w).trans (by rw [show (((an : Nat) : Int) + ((n : Nat) : Int) : Int) = ((an + n : Nat) : Int) from by omega]))) fun a hA => ?_
  refine seq_do hA rfl rfl rfl (does_move rfl) fun a hA => ?_
  refine seq_do hA rfl rfl rfl (does_move rfl) fun a hA => ?_
  refine seq_call hA rfl rfl rfl (enters_func  rfl rfl (fun w => by kernel_rfl)) ((hgy ▸ get_ok (an := an + n) (nn := n) (hRz59.below hS.bel) hRcz59 (by omega) (by omega) (by omega) (by omega) bg true)) ?_
  rintro _ w74 ⟨p71_1, p71_c1, p71_2, p71_c2, p71_3, p71_c3, p71_4, p71_c4, rfl, hn72, hb73⟩
  replace hS := hS.call hb73
  replace hS := hS.addR hn72.s1.rd
  replace hS := hS.addR hn72.s2.rd
  replace hS := hS.addR hn72.s3.rd
  replace hS := hS.addR hn72.s4.rd
  refine ⟨_, rfl, ?_⟩
  intro a hA
  refine seq_do hA rfl rfl rfl (does_move rfl) fun a hA => ?_
  refine seq_do (v := .agg #[.bool Y.b1, .slice p71_1 Y.t1.length p71_c1, .slice p71_2 Y.q1.length p71_c2, .bool Y.b2, .slice p71_3 Y.t2.length p71_c3, .slice p71_4 Y.q2.length p71_c4]) hA rfl rfl rfl (does_extract (vs := [.agg #[.bool Y.b1, .slice p71_1 Y.t1.length p71_c1, .slice p71_2 Y.q1.length p71_c2, .bool Y.b2, .slice p71_3 Y.t2.length p71_c3, .slice p71_4 Y.q2.length p71_c4], .int .i64 0]) rfl rfl) fun a hA => ?_
  refine seq_do (v := .int .i64 0) hA rfl rfl rfl (does_extract (vs := [.agg #[.bool Y.b1, .slice p71_1 Y.t1.length p71_c1, .slice p71_2 Y.q1.length p71_c2, .bool Y.b2, .slice p71_3 Y.t2.length p71_c3, .slice p71_4 Y.q2.length p71_c4], .int .i64 0]) rfl rfl) fun a hA => ?_
  refine seq_new (vs := [.bool false, .slice none 0 0, .slice none 0 0, .bool false, .slice none 0 0, .slice none 0 0]) (t := 27) hA hS rfl rfl rfl (fun g => .pointer (some ⟨g, 0, none⟩)) (does_alloc (z := .agg #[.bool false, .slice none 0 0, .slice none 0 0, .bool false, .slice none 0 0, .slice none 0 0]) (by kernel_rfl) rfl) rfl ?_
  intro g75 w76 hS a hA
  refine seq_store (us := [.bool Y.b1, .slice p71_1 Y.t1.length p71_c1, .slice p71_2 Y.q1.length p71_c2, .bool Y.b2, .slice p71_3 Y.t2.length p71_c3, .slice p71_4 Y.q2.length p71_c4]) hA hS rfl rfl (sets_store rfl rfl rfl (by kernel_rfl) hS 0 rfl rfl rfl) 0 rfl rfl rfl rfl ?_
  intro w77 hS
  refine seq_do hA rfl rfl rfl (does_assign rfl) fun a hA => ?_
  refine seq_end ?_
  refine hK70 _ _ ?_
  refine wp_seq_k (fun K78 hK78 => ?_)
  refine wp_region_lit ?_
  refine seq_do hA rfl rfl rfl (does_move rfl) fun a hA => ?_
  refine seq_do (v := .bool true) hA rfl rfl rfl (does_bin rfl rfl (fun w => by kernel_rfl)) fun a hA => ?_
  refine seq_do hA rfl rfl rfl (does_move rfl) fun a hA => ?_
  refine seq_do hA rfl rfl rfl (does_move rfl) fun a hA => ?_
  refine seq_do (v := .bool true) hA rfl rfl rfl (does_bin rfl rfl (fun w => by kernel_rfl)) fun a hA => ?_
  refine seq_do (v := .bool true) hA rfl rfl rfl (does_pick rfl rfl rfl rfl) fun a hA => ?_
  refine seq_do hA rfl rfl rfl (does_move rfl) fun a hA => ?_
  refine seq_do hA rfl rfl rfl (does_loadS hS GvH_isS_27 rfl 1 rfl (cs := [.bool X.b1, .slice p63_1 X.t1.length p63_c1, .slice p63_2 X.q1.length p63_c2, .bool X.b2, .slice p63_3 X.t2.length p63_c3, .slice p63_4 X.q2.length p63_c4]) rfl rfl) fun a hA => ?_
  refine seq_do hA rfl rfl rfl (does_loadSF hS hFg2z14z59 GvH_isS_27 rfl (cs := [.bool X.b1, .slice a1 X.t1.length ac1, .slice a2 X.q1.length ac2, .bool X.b2, .slice a3 X.t2.length ac3, .slice a4 X.q2.length ac4]) rfl rfl) fun a hA => ?_
  refine seq_call hA rfl rfl rfl (enters_func  rfl rfl (fun w => by kernel_rfl)) (sameQ_any (p := X) (q := X) (show Nm _ _ p63_1 p63_c1 p63_2 p63_c2 p63_3 p63_c3 p63_4 p63_c4 from ⟨⟨(hS.rd 7 rfl), hn64.s1.nil, hn64.s1.cap⟩, ⟨(hS.rd 6 rfl), hn64.s2.nil, hn64.s2.cap⟩, ⟨(hS.rd 5 rfl), hn64.s3.nil, hn64.s3.cap⟩, ⟨(hS.rd 4 rfl), hn64.s4.nil, hn64.s4.cap⟩⟩) hX (show Nm _ _ a1 ac1 a2 ac2 a3 ac3 a4 ac4 from ⟨⟨(hXwz59.s1.rd.below hS.bel), ha.s1.nil, ha.s1.cap⟩, ⟨(hXwz59.s2.rd.below hS.bel), ha.s2.nil, ha.s2.cap⟩, ⟨(hXwz59.s3.rd.below hS.bel), ha.s3.nil, ha.s3.cap⟩, ⟨(hXwz59.s4.rd.below hS.bel), ha.s4.nil, ha.s4.cap⟩⟩) hX (sameQ_self hsX)) ?_
  rintro _ w80 ⟨rfl, hb79⟩
  replace hS := hS.call hb79
  refine ⟨_, rfl, ?_⟩
  intro a hA
  refine seq_do (v := .bool true) hA rfl rfl rfl (does_pick rfl rfl rfl rfl) fun a hA => ?_
  refine seq_do hA rfl rfl rfl (does_move rfl) fun a hA => ?_
  refine seq_do hA rfl rfl rfl (does_loadS hS GvH_isS_27 rfl 0 rfl (cs := [.bool Y.b1, .slice p71_1 Y.t1.length p71_c1, .slice p71_2 Y.q1.length p71_c2, .bool Y.b2, .slice p71_3 Y.t2.length p71_c3, .slice p71_4 Y.q2.length p71_c4]) rfl rfl) fun a hA => ?_
  refine seq_do hA rfl rfl rfl (does_loadSF hS hFg4z14z59 GvH_isS_27 rfl (cs := [.bool Y.b1, .slice u1 Y.t1.length uc1, .slice u2 Y.q1.length uc2, .bool Y.b2, .slice u3 Y.t2.length uc3, .slice u4 Y.q2.length uc4]) rfl rfl) fun a hA => ?_
  refine seq_call hA rfl rfl rfl (enters_func  rfl rfl (fun w => by kernel_rfl)) (sameQ_any (p := Y) (q := Y) (show Nm _ _ p71_1 p71_c1 p71_2 p71_c2 p71_3 p71_c3 p71_4 p71_c4 from ⟨⟨(hS.rd 3 rfl), hn72.s1.nil, hn72.s1.cap⟩, ⟨(hS.rd 2 rfl), hn72.s2.nil, hn72.s2.cap⟩, ⟨(hS.rd 1 rfl), hn72.s3.nil, hn72.s3.cap⟩, ⟨(hS.rd 0 rfl), hn72.s4.nil, hn72.s4.cap⟩⟩) hY (show Nm _ _ u1 uc1 u2 uc2 u3 uc3 u4 uc4 from ⟨⟨(hYwz59.s1.rd.below hS.bel), hu.s1.nil, hu.s1.cap⟩, ⟨(hYwz59.s2.rd.below hS.bel), hu.s2.nil, hu.s2.cap⟩, ⟨(hYwz59.s3.rd.below hS.bel), hu.s3.nil, hu.s3.cap⟩, ⟨(hYwz59.s4.rd.below hS.bel), hu.s4.nil, hu.s4.cap⟩⟩) hY (sameQ_self hsY)) ?_
  rintro _ w82 ⟨rfl, hb81⟩
  replace hS := hS.call hb81
  refine ⟨_, rfl, ?_⟩
  intro a hA
  refine seq_do (v := .bool true) hA rfl rfl rfl (does_pick rfl rfl rfl rfl) fun a hA => ?_
  refine seq_do hA rfl rfl rfl (does_assign rfl) fun a hA => ?_
  refine seq_end ?_
  refine hK78 _ _ ?_
  refine wp_ret ?_
  refine hret _ _ ?_
  refine ends (v := .bool true) hA rfl (.cons (res_tmp rfl) .nil) rfl ?_
  exact ⟨rfl, chain2 hWz59 hS.bel⟩
theorem put_out {w : World} {l : List UInt8} (hl : l.length ≤ 140737488351232) {an n : Nat} (h1 : 1 ≤ n) (h64 : n ≤ 64) (han : an ≤ 1000) (bg : Bool) {q : Q6} {o1 o2 o3 o4 : Option Addr} {c1 c2 c3 c4 : Nat} (ha : Nm w q o1 c1 o2 c2 o3 c3 o4 c4) (hq : LenQ q) :
  (∃ ec : Int, ec ≠ 0 ∧ ∀ W so ca, Below w.heap.size w W → G.Rb W so l → l.length ≤ ca → Calls Tryd.prog 15 #[.slice so l.length ca, .int .i64 ((an : Nat) : Int), .int .i64 ((n : Nat) : Int), .bool bg, .bool true, numV q o1 c1 o2 c2 o3 c3 o4 c4] W (fun e w' => e = .returned (.tuple #[.slice none 0 0, .int .i64 ec]) ∧ Below W.heap.size W w')) ∨
  (∃ pl : List UInt8, pl.length = n ∧ an + n ≤ l.length ∧ G.numQ bg true pl = q ∧ soundQ q = true ∧ ∀ W so ca, Below w.heap.size w W → G.Rb W so l → l.length ≤ ca → Calls Tryd.prog 15 #[.slice so l.length ca, .int .i64 ((an : Nat) : Int), .int .i64 ((n : Nat) : Int), .bool bg, .bool true, numV q o1 c1 o2 c2 o3 c3 o4 c4] W (fun e w' => ∃ v, e = .returned (.tuple #[v, .int .i64 0]) ∧ G.Mg W w' [.row G.BY 1 v (G.ovl an pl l).length (Lib.byteCells (G.ovl an pl l))])) := by
 by_cases hle : an + n ≤ l.length
 ·
  rcases want1_cases q with ⟨hw, h2⟩ | ⟨hw, _⟩
  ·
   obtain ⟨b, x, rfl, hx, hb⟩ := wholeOf ha h2
   by_cases hr : bl (x - b.toNat) ≤ n * 8 - 1
   ·
    refine .inr ⟨G.lowB bg (G.leB n (fld b (x - b.toNat) 0 (n * 8))), by rw [G.low_len, G.leB_len], hle, round_trip bg h1 hb hr, soundQ_whole hx hb, fun W so ca hW hR hca => ?_⟩
    exact G.put_ok hR hca hl h1 h64 hle bg true (by rw [G.low_len, G.leB_len]) (fun W' hW' => G.laid_all (G.nm_below (G.nm_below ha hW) hW') hx hb h1 h64 bg true rfl rfl hr (fun _ => rfl))
   ·
    refine .inl ⟨4, by decide, fun W so ca hW hR hca => ?_⟩
    exact G.put_err hR hca hl h1 h64 hle bg true (by decide) (fun W' hW' => G.laid_large (G.nm_below (G.nm_below ha hW) hW') hx hb h1 h64 bg true (.inl (by show n * 8 - 1 < _; omega)))
  ·
   refine .inl ⟨want1 q, bne_iff_ne.1 hw, fun W so ca hW hR hca => ?_⟩
   exact G.put_err hR hca hl h1 h64 hle bg true (bne_iff_ne.1 hw) (fun W' hW' => G.laid_err (G.nm_below (G.nm_below ha hW) hW') hq hw)
 ·
  refine .inl ⟨1, by decide, fun W so ca hW hR hca => ?_⟩
  exact G.put_no2 hR hca hl (by omega) (by omega) (by omega) (by omega) bg true (by unfold G.okSize; apply decide_eq_true; omega) (by unfold G.inB; apply decide_eq_false; omega)
theorem apart_any {w : World} {so : Option Addr} {ca : Nat} {l : List UInt8} (hb : G.Rb w so l) (hca : l.length ≤ ca) (hl : l.length ≤ 140737488351232) {X Y : Q6} {a1 a2 a3 a4 : Option Addr} {ac1 ac2 ac3 ac4 : Nat} (ha : Nm w X a1 ac1 a2 ac2 a3 ac3 a4 ac4) (hX : LenQ X) {u1 u2 u3 u4 : Option Addr} {uc1 uc2 uc3 uc4 : Nat} (hu : Nm w Y u1 uc1 u2 uc2 u3 uc3 u4 uc4) (hY : LenQ Y) {at_ sz an n : Nat} (hat : at_ < 256) (hsz : sz < 256) (han : at_ % 40 = an) (hn : sz % 8 + 1 = n) (bg : Bool) : Calls Tryd.prog 5 #[.slice so l.length ca, .int .u8 ((at_ : Nat) : Int), .int .u8 ((sz : Nat) : Int), .bool bg, numV X a1 ac1 a2 ac2 a3 ac3 a4 ac4, numV Y u1 uc1 u2 uc2 u3 uc3 u4 uc4] w fun e w' => e = .returned (.bool true) ∧ Below w.heap.size w w' := by
 have hn8 : n ≤ 8 := by omega
 rcases put_out hl (an := an) (n := n) (by omega) (by omega) (by omega) bg ha hX with ⟨ec, hec, h⟩ | ⟨pl, hpl, hle, hg, hs, h⟩
 ·
  exact apart_e1 hb hca hl ha hX hu hY hat hsz han hn bg hec (fun W hW => h W _ _ hW (hb.below hW) hca)
 ·
  have hlen : (G.ovl an pl l).length = l.length := G.ovl_len (by omega)
  have hout : ∀ i, (i < an ∨ an + n ≤ i) → (G.ovl an pl l).getD i 0 = l.getD i 0 := fun i hi => ovl_out hpl hle hi
  rcases put_out (l := G.ovl an pl l) (by omega) (an := an + n) (n := n) (by omega) (by omega) (by omega) bg hu hY with ⟨ec, hec, k⟩ | ⟨pm, hpm, kle, kg, ks, k⟩
  ·
   exact apart_e2 hb hca hl ha hX hu hY hat hsz han hn bg hec hlen hout (fun W hW => h W _ _ hW (hb.below hW) hca) (fun W so' ca' hW hR hc => k W so' ca' hW hR hc)
  ·
   have hlen2 : (G.ovl (an + n) pm (G.ovl an pl l)).length = l.length := by rw [G.ovl_len (by omega)]; exact hlen
   refine apart_ok hb hca hl ha hX hu hY hat hsz han hn bg hlen hout hlen2 (by omega) (fun W hW => h W _ _ hW (hb.below hW) hca) (fun W so' ca' hW hR hc => k W so' ca' hW hR hc) ?_ ?_ hs ks
   ·
    rw [ovl_keep hpm (by omega) kle, ovl_get hpl hle]; exact hg
   ·
    rw [ovl_get hpm kle]; exact kg
theorem apart_arg {w : World} {so : Option Addr} {ca : Nat} {l : List UInt8} (hb : G.Rb w so l) (hca : l.length ≤ ca) (hl : l.length ≤ 140737488351232) {X Y : Q6} {a1 a2 a3 a4 : Option Addr} {ac1 ac2 ac3 ac4 : Nat} (ha : Nm w X a1 ac1 a2 ac2 a3 ac3 a4 ac4) (hX : LenQ X) {u1 u2 u3 u4 : Option Addr} {uc1 uc2 uc3 uc4 : Nat} (hu : Nm w Y u1 uc1 u2 uc2 u3 uc3 u4 uc4) (hY : LenQ Y) {z1 z2 : Int} (h10 : 0 ≤ z1) (h11 : z1 ≤ 255) (h20 : 0 ≤ z2) (h21 : z2 ≤ 255) (bg : Bool) : Calls Tryd.prog 5 #[.slice so l.length ca, .int .u8 z1, .int .u8 z2, .bool bg, numV X a1 ac1 a2 ac2 a3 ac3 a4 ac4, numV Y u1 uc1 u2 uc2 u3 uc3 u4 uc4] w fun e w' => e = .returned (.bool true) ∧ Below w.heap.size w w' := by
 obtain ⟨m1, rfl⟩ := Int.eq_ofNat_of_zero_le h10
 obtain ⟨m2, rfl⟩ := Int.eq_ofNat_of_zero_le h20
 exact apart_any hb hca hl ha hX hu hY (by omega) (by omega) rfl rfl bg
end Go.Proofs.YtbajcflbimmnhaaDoor
namespace Go.Proofs.YtbajcflbimmnhaaDoor.G
open Go.ChangeShapes Go.WideShapes Go.ChangeAt Go.RowKit Go.Joins Go.Deep
set_option linter.unusedVariables false
set_option linter.unusedSimpArgs false
set_option maxRecDepth 100000

section
variable {H : Type} {enc : TypeId × Value → H} {W : World}
end
end Go.Proofs.YtbajcflbimmnhaaDoor.G
namespace Go.Proofs.YtbajcflbimmnhaaDoor.G
open Go.ChangeShapes Go.WideShapes Go.ChangeAt Go.RowKit Go.Joins Go.Deep
set_option linter.unusedVariables false
set_option linter.unusedSimpArgs false
set_option maxRecDepth 100000

theorem bytes_row {w : World} {x : Addr} {len cap : Nat} {zs : List Int} (hl : len ≤ cap) (hz : zs.length = cap)
    (hc : ∀ i, i < zs.length → w.cell? (x.add i) = some (.int .u8 (zs.getD i 0))) (hw : ∀ n ∈ zs, (Lit.int .u8 n).wf = true) :
    ∃ l : List UInt8, l.length = len ∧ Rb w (some x) l := by
  have hbd : ∀ n ∈ zs, 0 ≤ n ∧ n < 256 := by
    intro n hn
    have := bounds_u8 (hw n hn)
    omega
  refine ⟨(zs.take len).map b8, by rw [List.length_map, List.length_take]; omega, ⟨fun hne => ?_⟩⟩
  have hlen : ((zs.take len).map b8).length = len := by rw [List.length_map, List.length_take]; omega
  have h0 : 0 < len := by
    apply Classical.byContradiction
    intro h
    have : len = 0 := by omega
    subst this
    simp at hne
  obtain ⟨b, off, spot⟩ := x
  have hspot : spot = none := by
    have := hc 0 (by omega)
    simp only [World.cell?, Addr.add] at this
    split at this
    · cases spot with
      | none => rfl
      | some s => simp at this
    · cases this
  subst hspot
  have hcj : ∀ j, j < len → w.cell? ⟨b, off + j, none⟩ = some (.int .u8 (((((zs.take len).map b8).getD j 0).toNat : Nat) : Int)) := by
    intro j hj
    have h1 := hc j (by omega)
    rw [Addr.add_lit] at h1
    rw [h1]
    have hjz : j < zs.length := by omega
    have h2 := hbd zs[j] (List.getElem_mem hjz)
    have e1 : zs.getD j 0 = zs[j] := by simp [hjz]
    have e2 : ((zs.take len).map b8).getD j 0 = b8 zs[j] := by simp [List.getD_eq_getElem?_getD, hj, hjz]
    rw [e1, e2, b8_val h2.1 h2.2]
  refine ⟨b, off, rfl, ?_, fun j hj => hcj j (by omega)⟩
  have := hcj 0 h0
  apply Classical.byContradiction
  intro h
  simp [World.cell?, Array.getElem?_eq_none (Nat.le_of_not_lt h)] at this
section
variable {H : Type} {enc : TypeId × Value → H} {W : World}
end
theorem Rb.take {w : World} {so : Option Addr} {l : List UInt8} (h : Rb w so l) (n : Nat) : Rb w so (l.take n) := by
  refine ⟨fun hne => ?_⟩
  obtain ⟨b, off, h1, h2, h3⟩ := h.pos (fun k => hne (by rw [k]; simp))
  refine ⟨b, off, h1, h2, fun j hj => ?_⟩
  rw [List.length_take] at hj
  rw [h3 j (by omega), List.getD_eq_getElem?_getD, List.getD_eq_getElem?_getD, List.getElem?_take_of_lt (by omega)]
section
variable {P : Program} {w : World} {l : List (Nat × Value)} {dst : Option Tmp} {ty : TypeId} {pos : String} {after : Array Edge} {guard : Option (Nat × Bool)}
end
end Go.Proofs.YtbajcflbimmnhaaDoor.G
