/- The walk of the document's number at a place of bytes. The walk of the law of Get. Transcoders that come in as arguments. Rows of bytes that come in as arguments; the first part of a row, and of a text. -/
import Derived.Test.YtbajcflbimmnhaaDoorPbyteve11d
import Derived.Test.YtbajcflbimmnhaaDoorPbyteve11b
import Derived.Test.YtbajcflbimmnhaaDoorProg
import Derived.WalkKit
import Derived.ProofKit
import Derived.OpenShut
import Derived.ChangeOld
import Derived.Lib.SmallJoins
import Derived.Deep.Strs
namespace Go.Proofs.YtbajcflbimmnhaaDoor
open Go.RowKit
set_option linter.unusedVariables false
set_option linter.unusedSimpArgs false
set_option maxRecDepth 100000
theorem GvC_is1_5 : Is1 Tryd.prog 5 := ⟨⟨_, Tryd.underlying5, rfl⟩, by kernel_rfl⟩
theorem GvC_fld_27_0 : FieldAt Tryd.prog 27 0 0 := ⟨_, _, Tryd.underlying27, rfl, rfl, by kernel_rfl⟩
theorem GvC_isS_25 : IsS Tryd.prog 25 3 := ⟨⟨_, Tryd.underlying25⟩, by kernel_rfl⟩
theorem GvC_isS_27 : IsS Tryd.prog 27 6 := ⟨⟨_, Tryd.underlying27⟩, by kernel_rfl⟩
set_option maxHeartbeats 1000000 in
theorem rget_false {w : World} {so : Option Addr} {ca : Nat} {l : List UInt8} (hb : G.Rb w so l) (hca : l.length ≤ ca) (hl : l.length ≤ 140737488351232) {an nn : Nat} (hn1 : 1 ≤ nn) (hn64 : nn ≤ 64) (hle : an + nn ≤ l.length) (bg : Bool) : Calls Tryd.prog 7 #[.slice so l.length ca, .int .i64 ((an : Nat) : Int), .int .i64 ((nn : Nat) : Int), .bool bg, .bool false] w (AnsN w (G.numQ bg false ((l.drop an).take nn), 0)) := by
 have hpl : ((l.drop an).take nn).length = nn := by rw [List.length_take, List.length_drop]; omega
 have hk1 : G.okSize ((nn : Nat) : Int) = true := by unfold G.okSize; apply decide_eq_true; omega
 have hk2 : G.inB l.length ((an : Nat) : Int) ((nn : Nat) : Int) = true := by unfold G.inB; apply decide_eq_true; omega
 have hk3 : okG l.length ((an : Nat) : Int) ((nn : Nat) : Int) = true := by unfold okG; rw [hk1, hk2]; rfl
 have hy2 : (words (2 ^ (8 * nn))).length ≤ 512 := by rw [pow_8]; exact G.small_words hn64 (Nat.le_refl _)
 have hS : St w w [] [] [] := St.start w
 refine walk_of (l := [(0, .slice so l.length ca), (1, .int .i64 (((an : Nat) : Int))), (2, .int .i64 (((nn : Nat) : Int))), (3, .bool bg), (4, .bool false)]) Tryd.func7 rfl Tryd.ntmps7 rfl rfl ?_
 intro Q hret hnorm hP a hA
 refine wp_seq_k (fun K1 hK1 => ?_)
 refine wp_region_lit ?_
 refine seq_new (vs := [.bool false, .slice none 0 0, .slice none 0 0, .bool false, .slice none 0 0, .slice none 0 0]) (t := 27) hA hS rfl rfl rfl (fun g => .pointer (some ⟨g, 0, none⟩)) (does_alloc (z := .agg #[.bool false, .slice none 0 0, .slice none 0 0, .bool false, .slice none 0 0, .slice none 0 0]) (by kernel_rfl) rfl) rfl ?_
 intro g2 w3 hS a hA
 refine seq_do hA rfl rfl rfl (does_assign rfl) fun a hA => ?_
 refine seq_end ?_
 refine hK1 _ _ ?_
 refine wp_seq_k (fun K4 hK4 => ?_)
 refine wp_seq_k (fun K5 hK5 => ?_)
 refine wp_region_lit ?_
 refine seq_do hA rfl rfl rfl (does_move rfl) fun a hA => ?_
 refine seq_do (v := .int .i64 (((l.length : Nat) : Int))) hA rfl rfl rfl (does_len Tryd.underlying22 rfl) fun a hA => ?_
 refine seq_do hA rfl rfl rfl (does_move rfl) fun a hA => ?_
 refine seq_do hA rfl rfl rfl (does_move rfl) fun a hA => ?_
 refine seq_call hA rfl rfl rfl (enters_func  rfl rfl (fun w => by kernel_rfl)) (rin_any hl (by omega) (by omega) (by omega) (by omega) hk3) ?_
 rintro _ w7 ⟨rfl, hb6⟩
 replace hS := hS.call hb6
 refine ⟨_, rfl, ?_⟩
 intro a hA
 refine seq_do (v := .bool false) hA rfl rfl rfl (does_un rfl un_not) fun a hA => ?_
 refine seq_end ?_
 refine hK5 _ _ ?_
 refine wp_cond_false (hA.ev rfl) ?_
 refine wp_skip ?_
 refine hK4 _ _ ?_
 refine wp_seq_k (fun K8 hK8 => ?_)
 refine wp_region_lit ?_
 refine seq_newU (us := []) (t := 49) (m := 0) hA hS rfl rfl rfl (does_buildSlice rfl (by kernel_rfl)) (by simp [Dig]) ?_
 intro g9 w10 hS a hA
 refine seq_do hA rfl rfl rfl (does_assign rfl) fun a hA => ?_
 refine seq_end ?_
 refine hK8 _ _ ?_
 refine wp_seq_k (fun K11 hK11 => ?_)
 refine wp_seq_k (fun K12 hK12 => ?_)
 refine wp_region_lit ?_
 refine seq_do hA rfl rfl rfl (does_assign rfl) fun a hA => ?_
 refine seq_end ?_
 refine hK12 _ _ ?_
 refine wp_block ?_
 refine wp_loop_n (fun m a w1 => ∃ (k : Nat) (xl : List Nat) (ro : Option Addr) (rc : Nat), m = 1 + (nn - k) ∧ (k ≤ nn ∧ xl = words (upK bg ((l.drop an).take nn) k) ∧ (ro = none → rc = 0) ∧ xl.length ≤ rc) ∧ Sl a 79 [(0, .slice so l.length ca), (1, .int .i64 (((an : Nat) : Int))), (2, .int .i64 (((nn : Nat) : Int))), (3, .bool bg), (4, .bool false), (10, .pointer (some ⟨g2, 0, none⟩)), (11, .int .i64 0), (12, .slice ro xl.length rc), (13, .int .i64 (((k : Nat) : Int))), (17, .slice so l.length ca), (18, .int .i64 (((l.length : Nat) : Int))), (19, .int .i64 (((an : Nat) : Int))), (20, .int .i64 (((nn : Nat) : Int))), (21, .bool true), (22, .bool false), (24, .slice (some ⟨g9, 0, none⟩) 0 0)] ∧ St w w1 [(g2, [.bool false, .slice none 0 0, .slice none 0 0, .bool false, .slice none 0 0, .slice none 0 0])] [(ro, xl), (some ⟨g9, 0, none⟩, [])] []) _ ⟨0, [], some ⟨g9, 0, none⟩, 0, rfl, ⟨Nat.zero_le _, by rw [upK_zero, words_zero], (fun h => by cases h), (Nat.le_refl _)⟩, hA.keep _ ⟨rfl, rfl, rfl, rfl, rfl, rfl, rfl, rfl, rfl, rfl, rfl, rfl, rfl, rfl, rfl, rfl, trivial⟩, ((hS.pickR [(some ⟨g9, 0, none⟩, []), (some ⟨g9, 0, none⟩, [])] ⟨⟨0, rfl⟩, ⟨⟨0, rfl⟩, trivial⟩⟩).subL _ (.refl _))⟩ ?_
 clear hS hA
 rintro m a w13 ⟨k, xl, ro, rc, rfl, hinv15, hA, hS⟩ K14 hK14
 obtain ⟨hk9, hxl, hnil, hcap⟩ := hinv15
 have hup := upK_lt bg (p := ((l.drop an).take nn)) (k := k) (by omega) (by omega)
 refine wp_seq_k (fun K16 hK16 => ?_)
 refine wp_seq_k (fun K17 hK17 => ?_)
 refine wp_region_lit ?_
 refine seq_do hA rfl rfl rfl (does_move rfl) fun a hA => ?_
 refine seq_do hA rfl rfl rfl (does_move rfl) fun a hA => ?_
 rcases Bool.eq_false_or_eq_true (decide (((k : Nat) : Int) < ((nn : Nat) : Int))) with hb18 | hb18
 ·
  have hb18' := of_decide_eq_true hb18
  refine seq_do (v := .bool true) hA rfl rfl rfl (does_bin rfl rfl (fun w => (bin_lss w).trans (by rw [hb18]))) fun a hA => ?_
  refine seq_end ?_
  refine hK17 _ _ ?_
  refine wp_cond_true (hA.ev rfl) ?_
  refine wp_skip ?_
  refine hK16 _ _ ?_
  refine wp_seq_k (fun K19 hK19 => ?_)
  refine wp_block ?_
  refine wp_seq_k (fun K20 hK20 => ?_)
  refine wp_region_lit ?_
  refine seq_do hA rfl rfl rfl (does_move rfl) fun a hA => ?_
  refine seq_do hA rfl rfl rfl (does_move rfl) fun a hA => ?_
  refine seq_do hA rfl rfl rfl (does_move rfl) fun a hA => ?_
  refine seq_do (v := .int .i64 (((an + nn : Nat) : Int))) hA rfl rfl rfl (does_bin rfl rfl (fun w => (bin_add (i64In (by omega) (by omega)) w).trans (by rw [show (((an : Nat) : Int) + ((nn : Nat) : Int) : Int) = ((an + nn : Nat) : Int) from by omega]))) fun a hA => ?_
  refine seq_do (v := .int .i64 (((an + nn - 1 : Nat) : Int))) hA rfl rfl rfl (does_bin rfl rfl (fun w => (bin_sub (i64In (by omega) (by omega)) w).trans (by rw [show (((an + nn : Nat) : Int) - 1 : Int) = ((an + nn - 1 : Nat) : Int) from by omega]))) fun a hA => ?_
  refine seq_do hA rfl rfl rfl (does_move rfl) fun a hA => ?_
  refine seq_do (v := .int .i64 ((((an + nn - 1) - k : Nat) : Int))) hA rfl rfl rfl (does_bin rfl rfl (fun w => (bin_sub (i64In (by omega) (by omega)) w).trans (by rw [show (((an + nn - 1 : Nat) : Int) - ((k : Nat) : Int) : Int) = (((an + nn - 1) - k : Nat) : Int) from by omega]))) fun a hA => ?_
  obtain ⟨bx21, ox22, hx23, hx24, hx25⟩ := rb_addr (i := (an + nn - 1) - k) hb (by omega)
  refine seq_do (v := .pointer (some ⟨bx21, ox22 + ((an + nn - 1) - k), none⟩)) hA rfl rfl rfl (does_indexRow (k := (an + nn - 1) - k) Tryd.underlying22 (by kernel_rfl) rfl rfl (by first | rfl | omega) hx23 (by omega)) fun a hA => ?_
  refine seq_do (v := .int .u8 ((((l.getD ((an + nn - 1) - k) 0).toNat : Nat) : Int))) hA rfl rfl rfl (does_loadB hS hx24 (hx25 ((an + nn - 1) - k) (by omega)) GvC_is1_5 rfl) fun a hA => ?_
  refine seq_do hA rfl rfl rfl (does_assign rfl) fun a hA => ?_
  refine seq_end ?_
  refine hK20 _ _ ?_
  refine wp_seq_k (fun K26 hK26 => ?_)
  refine wp_seq_k (fun K27 hK27 => ?_)
  refine wp_region_lit ?_
  refine seq_do hA rfl rfl rfl (does_move rfl) fun a hA => ?_
  refine seq_end ?_
  refine hK27 _ _ ?_
  refine wp_cond_split (t := bg) (hA.ev rfl) (fun hc28 => ?_) (fun hc28 => ?_)
  ·
   refine wp_region_lit ?_
   refine seq_do hA rfl rfl rfl (does_move rfl) fun a hA => ?_
   refine seq_do hA rfl rfl rfl (does_move rfl) fun a hA => ?_
   refine seq_do hA rfl rfl rfl (does_move rfl) fun a hA => ?_
   refine seq_do (v := .int .i64 (((an + k : Nat) : Int))) hA rfl rfl rfl (does_bin rfl rfl (fun w => (bin_add (i64In (by omega) (by omega)) w).trans (by rw [show (((an : Nat) : Int) + ((k : Nat) : Int) : Int) = ((an + k : Nat) : Int) from by omega]))) fun a hA => ?_
   obtain ⟨bx29, ox30, hx31, hx32, hx33⟩ := rb_addr (i := an + k) hb (by omega)
   refine seq_do (v := .pointer (some ⟨bx29, ox30 + (an + k), none⟩)) hA rfl rfl rfl (does_indexRow (k := an + k) Tryd.underlying22 (by kernel_rfl) rfl rfl (by first | rfl | omega) hx31 (by omega)) fun a hA => ?_
   refine seq_do (v := .int .u8 ((((l.getD (an + k) 0).toNat : Nat) : Int))) hA rfl rfl rfl (does_loadB hS hx32 (hx33 (an + k) (by omega)) GvC_is1_5 rfl) fun a hA => ?_
   refine seq_do hA rfl rfl rfl (does_assign rfl) fun a hA => ?_
   refine seq_end ?_
   refine hK26 _ _ ?_
   refine wp_region_lit ?_
   refine seq_do hA rfl rfl rfl (does_move rfl) fun a hA => ?_
   refine seq_newU (us := [256]) (t := 49) (m := 1) hA hS rfl rfl rfl (does_buildSlice rfl (by kernel_rfl)) (by simp [Dig]) ?_
   intro g34 w35 hS a hA
   refine seq_call hA rfl rfl rfl (enters_func  rfl rfl (fun w => by kernel_rfl)) (rtimes256 (x := upK bg ((l.drop an).take nn) k) _ _ hxl (hS.rd 1 rfl) (hS.rd 0 rfl) hup.2) ?_
   rintro _ w40 ⟨ro36, rc37, rfl, ho38, hb39⟩
   replace hS := hS.call hb39
   replace hS := hS.addR ho38.rd
   refine ⟨_, rfl, ?_⟩
   intro a hA
   refine seq_do hA rfl rfl rfl (does_move rfl) fun a hA => ?_
   have hX8 := UInt8.toNat_lt (l.getD (an + k) 0)
   refine seq_do (v := .int .u64 ((((l.getD (an + k) 0).toNat : Nat) : Int))) hA rfl rfl rfl (does_convert rfl (ar_conv Tryd.underlying5 Tryd.underlying51 (in_u64 (by omega) (by omega)))) fun a hA => ?_
   refine seq_call hA rfl rfl rfl (enters_func  rfl rfl (fun w => by kernel_rfl)) (rof_any ((l.getD (an + k) 0).toNat) _ (by omega)) ?_
   rintro _ w45 ⟨ro41, rc42, rfl, ho43, hb44⟩
   replace hS := hS.call hb44
   replace hS := hS.addR ho43.rd
   refine ⟨_, rfl, ?_⟩
   intro a hA
   refine seq_call hA rfl rfl rfl (enters_func  rfl rfl (fun w => by kernel_rfl)) (plus_any _ _ (hS.rd 1 rfl) (hS.rd 0 rfl) (Nat.le_trans (words_mul_length (k := 512) (m := 1) hup.2 (by rw [words_256]; decide)) (by decide)) (byte_words (by omega))) ?_
   rintro _ w50 ⟨ro46, rc47, rfl, ho48, hb49⟩
   replace hS := hS.call hb49
   replace hS := hS.addR ho48.rd
   refine ⟨_, rfl, ?_⟩
   intro a hA
   refine seq_do hA rfl rfl rfl (does_assign rfl) fun a hA => ?_
   refine seq_end ?_
   refine hK19 _ _ ?_
   refine wp_region_lit ?_
   refine seq_do hA rfl rfl rfl (does_move rfl) fun a hA => ?_
   refine seq_do (v := .int .i64 (((k + 1 : Nat) : Int))) hA rfl rfl rfl (does_bin rfl rfl (fun w => (bin_add (i64In (by omega) (by omega)) w).trans (by rw [show (((k : Nat) : Int) + 1 : Int) = ((k + 1 : Nat) : Int) from by omega]))) fun a hA => ?_
   refine seq_do hA rfl rfl rfl (does_assign rfl) fun a hA => ?_
   refine seq_end ?_
   have hst := upK_step (bg := bg) (p := ((l.drop an).take nn)) (k := k) (by omega)
   rw [show (bqB bg ((l.drop an).take nn)).getD k 0 = l.getD (an + k) 0 from by rw [hc28]; exact bq_big (by omega)] at hst
   refine hK14 _ _ _ (by omega) ⟨k + 1, words (upK bg ((l.drop an).take nn) k * 256 + (l.getD (an + k) 0).toNat), ro46, rc47, rfl, ⟨by omega, by rw [hst], ho48.nocap, ho48.caps⟩, hA.keep _ ⟨rfl, rfl, rfl, rfl, rfl, rfl, rfl, rfl, rfl, rfl, rfl, rfl, rfl, rfl, rfl, rfl, trivial⟩, ((hS.pickR [(ro46, words (upK bg ((l.drop an).take nn) k * 256 + (l.getD (an + k) 0).toNat)), (some ⟨g9, 0, none⟩, [])] ⟨⟨0, rfl⟩, ⟨⟨5, rfl⟩, trivial⟩⟩).subL _ (.refl _))⟩
  ·
   refine wp_skip ?_
   refine hK26 _ _ ?_
   refine wp_region_lit ?_
   refine seq_do hA rfl rfl rfl (does_move rfl) fun a hA => ?_
   refine seq_newU (us := [256]) (t := 49) (m := 1) hA hS rfl rfl rfl (does_buildSlice rfl (by kernel_rfl)) (by simp [Dig]) ?_
   intro g51 w52 hS a hA
   refine seq_call hA rfl rfl rfl (enters_func  rfl rfl (fun w => by kernel_rfl)) (rtimes256 (x := upK bg ((l.drop an).take nn) k) _ _ hxl (hS.rd 1 rfl) (hS.rd 0 rfl) hup.2) ?_
   rintro _ w57 ⟨ro53, rc54, rfl, ho55, hb56⟩
   replace hS := hS.call hb56
   replace hS := hS.addR ho55.rd
   refine ⟨_, rfl, ?_⟩
   intro a hA
   refine seq_do hA rfl rfl rfl (does_move rfl) fun a hA => ?_
   have hX8 := UInt8.toNat_lt (l.getD ((an + nn - 1) - k) 0)
   refine seq_do (v := .int .u64 ((((l.getD ((an + nn - 1) - k) 0).toNat : Nat) : Int))) hA rfl rfl rfl (does_convert rfl (ar_conv Tryd.underlying5 Tryd.underlying51 (in_u64 (by omega) (by omega)))) fun a hA => ?_
   refine seq_call hA rfl rfl rfl (enters_func  rfl rfl (fun w => by kernel_rfl)) (rof_any ((l.getD ((an + nn - 1) - k) 0).toNat) _ (by omega)) ?_
   rintro _ w62 ⟨ro58, rc59, rfl, ho60, hb61⟩
   replace hS := hS.call hb61
   replace hS := hS.addR ho60.rd
   refine ⟨_, rfl, ?_⟩
   intro a hA
   refine seq_call hA rfl rfl rfl (enters_func  rfl rfl (fun w => by kernel_rfl)) (plus_any _ _ (hS.rd 1 rfl) (hS.rd 0 rfl) (Nat.le_trans (words_mul_length (k := 512) (m := 1) hup.2 (by rw [words_256]; decide)) (by decide)) (byte_words (by omega))) ?_
   rintro _ w67 ⟨ro63, rc64, rfl, ho65, hb66⟩
   replace hS := hS.call hb66
   replace hS := hS.addR ho65.rd
   refine ⟨_, rfl, ?_⟩
   intro a hA
   refine seq_do hA rfl rfl rfl (does_assign rfl) fun a hA => ?_
   refine seq_end ?_
   refine hK19 _ _ ?_
   refine wp_region_lit ?_
   refine seq_do hA rfl rfl rfl (does_move rfl) fun a hA => ?_
   refine seq_do (v := .int .i64 (((k + 1 : Nat) : Int))) hA rfl rfl rfl (does_bin rfl rfl (fun w => (bin_add (i64In (by omega) (by omega)) w).trans (by rw [show (((k : Nat) : Int) + 1 : Int) = ((k + 1 : Nat) : Int) from by omega]))) fun a hA => ?_
   refine seq_do hA rfl rfl rfl (does_assign rfl) fun a hA => ?_
   refine seq_end ?_
   have hst := upK_step (bg := bg) (p := ((l.drop an).take nn)) (k := k) (by omega)
   rw [show (bqB bg ((l.drop an).take nn)).getD k 0 = l.getD (an + nn - 1 - k) 0 from by rw [hc28]; exact bq_little (by omega) hle] at hst
   refine hK14 _ _ _ (by omega) ⟨k + 1, words (upK bg ((l.drop an).take nn) k * 256 + (l.getD ((an + nn - 1) - k) 0).toNat), ro63, rc64, rfl, ⟨by omega, by rw [hst], ho65.nocap, ho65.caps⟩, hA.keep _ ⟨rfl, rfl, rfl, rfl, rfl, rfl, rfl, rfl, rfl, rfl, rfl, rfl, rfl, rfl, rfl, rfl, trivial⟩, ((hS.pickR [(ro63, words (upK bg ((l.drop an).take nn) k * 256 + (l.getD ((an + nn - 1) - k) 0).toNat)), (some ⟨g9, 0, none⟩, [])] ⟨⟨0, rfl⟩, ⟨⟨5, rfl⟩, trivial⟩⟩).subL _ (.refl _))⟩
 ·
  have hb18' := of_decide_eq_false hb18
  refine seq_do (v := .bool false) hA rfl rfl rfl (does_bin rfl rfl (fun w => (bin_lss w).trans (by rw [hb18]))) fun a hA => ?_
  refine seq_end ?_
  refine hK17 _ _ ?_
  refine wp_cond_false (hA.ev rfl) ?_
  refine wp_exit ?_
  refine hK11 _ _ ?_
  refine wp_seq_k (fun K68 hK68 => ?_)
  refine wp_region_lit ?_
  refine seq_do hA rfl rfl rfl (does_move rfl) fun a hA => ?_
  refine seq_newU (us := [1]) (t := 49) (m := 1) hA hS rfl rfl rfl (does_buildSlice rfl (by kernel_rfl)) (by simp [Dig]) ?_
  intro g69 w70 hS a hA
  have hkn : k = nn := by omega
  have hxz : xl = words (G.leN (G.lowB bg ((l.drop an).take nn))) := by rw [hxl, hkn]; have h9 := upK_all bg ((l.drop an).take nn); rw [hpl] at h9; rw [h9]
  have hz := upK_lt bg (p := ((l.drop an).take nn)) (k := nn) (by omega) (by omega)
  rw [show upK bg ((l.drop an).take nn) nn = (G.leN (G.lowB bg ((l.drop an).take nn))) from by have h9 := upK_all bg ((l.drop an).take nn); rw [hpl] at h9; exact h9] at hz
  refine seq_do (v := .agg #[.bool false, .slice ro xl.length rc, .slice (some ⟨g69, 0, none⟩) 1 1]) hA rfl rfl rfl (does_build rfl (fun w => by kernel_rfl)) fun a hA => ?_
  refine seq_call hA rfl rfl rfl (enters_func  rfl rfl (fun w => by kernel_rfl)) (rzero_any _) ?_
  rintro _ w75 ⟨f71_1, f71_c1, f71_2, f71_c2, rfl, hs72, hs73, hb74⟩
  replace hS := hS.call hb74
  replace hS := hS.addR hs72.rd
  replace hS := hS.addR hs73.rd
  refine ⟨_, rfl, ?_⟩
  intro a hA
  refine seq_do (v := .agg #[.bool false, .slice ro xl.length rc, .slice (some ⟨g69, 0, none⟩) 1 1, .bool false, .slice f71_1 0 f71_c1, .slice f71_2 1 f71_c2]) hA rfl rfl rfl (does_build rfl (fun w => by kernel_rfl)) fun a hA => ?_
  refine seq_new (vs := [.bool false, .slice none 0 0, .slice none 0 0, .bool false, .slice none 0 0, .slice none 0 0]) (t := 27) hA hS rfl rfl rfl (fun g => .pointer (some ⟨g, 0, none⟩)) (does_alloc (z := .agg #[.bool false, .slice none 0 0, .slice none 0 0, .bool false, .slice none 0 0, .slice none 0 0]) (by kernel_rfl) rfl) rfl ?_
  intro g76 w77 hS a hA
  refine seq_store (us := [.bool false, .slice ro xl.length rc, .slice (some ⟨g69, 0, none⟩) 1 1, .bool false, .slice f71_1 0 f71_c1, .slice f71_2 1 f71_c2]) hA hS rfl rfl (sets_store rfl rfl rfl (by kernel_rfl) hS 0 rfl rfl rfl) 0 rfl rfl rfl rfl ?_
  intro w78 hS
  refine seq_end ?_
  refine hK68 _ _ ?_
  refine wp_seq_k (fun K79 hK79 => ?_)
  refine wp_seq_k (fun K80 hK80 => ?_)
  refine wp_region_lit ?_
  refine seq_do hA rfl rfl rfl (does_move rfl) fun a hA => ?_
  refine seq_do hA rfl rfl rfl (does_move rfl) fun a hA => ?_
  refine seq_skip hA rfl rfl rfl fun a hA => ?_
  refine seq_skip hA rfl rfl rfl fun a hA => ?_
  refine seq_skip hA rfl rfl rfl fun a hA => ?_
  refine seq_skip hA rfl rfl rfl fun a hA => ?_
  refine seq_skip hA rfl rfl rfl fun a hA => ?_
  refine seq_do (v := .bool false) hA rfl rfl rfl (does_pick rfl rfl rfl rfl) fun a hA => ?_
  refine seq_end ?_
  refine hK80 _ _ ?_
  refine wp_cond_false (hA.ev rfl) ?_
  refine wp_skip ?_
  refine hK79 _ _ ?_
  refine wp_seq_k (fun K81 hK81 => ?_)
  refine wp_region_lit ?_
  refine seq_do hA rfl rfl rfl (does_loadS hS GvC_isS_27 rfl 0 rfl (cs := [.bool false, .slice ro xl.length rc, .slice (some ⟨g69, 0, none⟩) 1 1, .bool false, .slice f71_1 0 f71_c1, .slice f71_2 1 f71_c2]) rfl rfl) fun a hA => ?_
  refine seq_store (us := [.bool false, .slice ro xl.length rc, .slice (some ⟨g69, 0, none⟩) 1 1, .bool false, .slice f71_1 0 f71_c1, .slice f71_2 1 f71_c2]) hA hS rfl rfl (sets_store rfl rfl rfl (by kernel_rfl) hS 1 rfl rfl rfl) 1 rfl rfl rfl rfl ?_
  intro w82 hS
  refine seq_do hA rfl rfl rfl (does_assign rfl) fun a hA => ?_
  refine seq_end ?_
  refine hK81 _ _ ?_
  refine wp_ret ?_
  refine hret _ _ ?_
  refine ends (v := .tuple #[.agg #[.bool false, .slice ro xl.length rc, .slice (some ⟨g69, 0, none⟩) 1 1, .bool false, .slice f71_1 0 f71_c1, .slice f71_2 1 f71_c2], .int .i64 0]) hA rfl (.cons (res_cell hS GvC_isS_27 rfl 1 rfl (cs := [.bool false, .slice ro xl.length rc, .slice (some ⟨g69, 0, none⟩) 1 1, .bool false, .slice f71_1 0 f71_c1, .slice f71_2 1 f71_c2]) rfl rfl) (.cons (res_tmp rfl) .nil)) rfl ?_
  have e9 : G.numQ bg false ((l.drop an).take nn) = Q6.whole false (G.leN (G.lowB bg ((l.drop an).take nn))) := by unfold G.numQ; rw [hpl, if_neg (fun k => by cases k.1)]
  subst hxz
  rw [e9]
  exact ⟨ro, rc, some ⟨g69, 0, none⟩, 1, f71_1, f71_c1, f71_2, f71_c2, rfl, ⟨⟨(hS.rd 3 rfl), hnil, hcap⟩, ⟨(hS.rd 2 rfl), (fun h => by cases h), (Nat.le_refl _)⟩, ⟨(hS.rd 1 rfl), hs72.nil, hs72.cap⟩, ⟨(hS.rd 0 rfl), hs73.nil, hs73.cap⟩⟩, hS.bel⟩
set_option maxHeartbeats 1000000 in
theorem rget_true {w : World} {so : Option Addr} {ca : Nat} {l : List UInt8} (hb : G.Rb w so l) (hca : l.length ≤ ca) (hl : l.length ≤ 140737488351232) {an nn : Nat} (hn1 : 1 ≤ nn) (hn64 : nn ≤ 64) (hle : an + nn ≤ l.length) (bg : Bool) : Calls Tryd.prog 7 #[.slice so l.length ca, .int .i64 ((an : Nat) : Int), .int .i64 ((nn : Nat) : Int), .bool bg, .bool true] w (AnsN w (G.numQ bg true ((l.drop an).take nn), 0)) := by
 have hpl : ((l.drop an).take nn).length = nn := by rw [List.length_take, List.length_drop]; omega
 have hk1 : G.okSize ((nn : Nat) : Int) = true := by unfold G.okSize; apply decide_eq_true; omega
 have hk2 : G.inB l.length ((an : Nat) : Int) ((nn : Nat) : Int) = true := by unfold G.inB; apply decide_eq_true; omega
 have hk3 : okG l.length ((an : Nat) : Int) ((nn : Nat) : Int) = true := by unfold okG; rw [hk1, hk2]; rfl
 have hy2 : (words (2 ^ (8 * nn))).length ≤ 512 := by rw [pow_8]; exact G.small_words hn64 (Nat.le_refl _)
 have hS : St w w [] [] [] := St.start w
 refine walk_of (l := [(0, .slice so l.length ca), (1, .int .i64 (((an : Nat) : Int))), (2, .int .i64 (((nn : Nat) : Int))), (3, .bool bg), (4, .bool true)]) Tryd.func7 rfl Tryd.ntmps7 rfl rfl ?_
 intro Q hret hnorm hP a hA
 refine wp_seq_k (fun K1 hK1 => ?_)
 refine wp_region_lit ?_
 refine seq_new (vs := [.bool false, .slice none 0 0, .slice none 0 0, .bool false, .slice none 0 0, .slice none 0 0]) (t := 27) hA hS rfl rfl rfl (fun g => .pointer (some ⟨g, 0, none⟩)) (does_alloc (z := .agg #[.bool false, .slice none 0 0, .slice none 0 0, .bool false, .slice none 0 0, .slice none 0 0]) (by kernel_rfl) rfl) rfl ?_
 intro g2 w3 hS a hA
 refine seq_do hA rfl rfl rfl (does_assign rfl) fun a hA => ?_
 refine seq_end ?_
 refine hK1 _ _ ?_
 refine wp_seq_k (fun K4 hK4 => ?_)
 refine wp_seq_k (fun K5 hK5 => ?_)
 refine wp_region_lit ?_
 refine seq_do hA rfl rfl rfl (does_move rfl) fun a hA => ?_
 refine seq_do (v := .int .i64 (((l.length : Nat) : Int))) hA rfl rfl rfl (does_len Tryd.underlying22 rfl) fun a hA => ?_
 refine seq_do hA rfl rfl rfl (does_move rfl) fun a hA => ?_
 refine seq_do hA rfl rfl rfl (does_move rfl) fun a hA => ?_
 refine seq_call hA rfl rfl rfl (enters_func  rfl rfl (fun w => by kernel_rfl)) (rin_any hl (by omega) (by omega) (by omega) (by omega) hk3) ?_
 rintro _ w7 ⟨rfl, hb6⟩
 replace hS := hS.call hb6
 refine ⟨_, rfl, ?_⟩
 intro a hA
 refine seq_do (v := .bool false) hA rfl rfl rfl (does_un rfl un_not) fun a hA => ?_
 refine seq_end ?_
 refine hK5 _ _ ?_
 refine wp_cond_false (hA.ev rfl) ?_
 refine wp_skip ?_
 refine hK4 _ _ ?_
 refine wp_seq_k (fun K8 hK8 => ?_)
 refine wp_region_lit ?_
 refine seq_newU (us := []) (t := 49) (m := 0) hA hS rfl rfl rfl (does_buildSlice rfl (by kernel_rfl)) (by simp [Dig]) ?_
 intro g9 w10 hS a hA
 refine seq_do hA rfl rfl rfl (does_assign rfl) fun a hA => ?_
 refine seq_end ?_
 refine hK8 _ _ ?_
 refine wp_seq_k (fun K11 hK11 => ?_)
 refine wp_seq_k (fun K12 hK12 => ?_)
 refine wp_region_lit ?_
 refine seq_do hA rfl rfl rfl (does_assign rfl) fun a hA => ?_
 refine seq_end ?_
 refine hK12 _ _ ?_
 refine wp_block ?_
 refine wp_loop_n (fun m a w1 => ∃ (k : Nat) (xl : List Nat) (ro : Option Addr) (rc : Nat), m = 1 + (nn - k) ∧ (k ≤ nn ∧ xl = words (upK bg ((l.drop an).take nn) k) ∧ (ro = none → rc = 0) ∧ xl.length ≤ rc) ∧ Sl a 79 [(0, .slice so l.length ca), (1, .int .i64 (((an : Nat) : Int))), (2, .int .i64 (((nn : Nat) : Int))), (3, .bool bg), (4, .bool true), (10, .pointer (some ⟨g2, 0, none⟩)), (11, .int .i64 0), (12, .slice ro xl.length rc), (13, .int .i64 (((k : Nat) : Int))), (17, .slice so l.length ca), (18, .int .i64 (((l.length : Nat) : Int))), (19, .int .i64 (((an : Nat) : Int))), (20, .int .i64 (((nn : Nat) : Int))), (21, .bool true), (22, .bool false), (24, .slice (some ⟨g9, 0, none⟩) 0 0)] ∧ St w w1 [(g2, [.bool false, .slice none 0 0, .slice none 0 0, .bool false, .slice none 0 0, .slice none 0 0])] [(ro, xl), (some ⟨g9, 0, none⟩, [])] []) _ ⟨0, [], some ⟨g9, 0, none⟩, 0, rfl, ⟨Nat.zero_le _, by rw [upK_zero, words_zero], (fun h => by cases h), (Nat.le_refl _)⟩, hA.keep _ ⟨rfl, rfl, rfl, rfl, rfl, rfl, rfl, rfl, rfl, rfl, rfl, rfl, rfl, rfl, rfl, rfl, trivial⟩, ((hS.pickR [(some ⟨g9, 0, none⟩, []), (some ⟨g9, 0, none⟩, [])] ⟨⟨0, rfl⟩, ⟨⟨0, rfl⟩, trivial⟩⟩).subL _ (.refl _))⟩ ?_
 clear hS hA
 rintro m a w13 ⟨k, xl, ro, rc, rfl, hinv15, hA, hS⟩ K14 hK14
 obtain ⟨hk9, hxl, hnil, hcap⟩ := hinv15
 have hup := upK_lt bg (p := ((l.drop an).take nn)) (k := k) (by omega) (by omega)
 refine wp_seq_k (fun K16 hK16 => ?_)
 refine wp_seq_k (fun K17 hK17 => ?_)
 refine wp_region_lit ?_
 refine seq_do hA rfl rfl rfl (does_move rfl) fun a hA => ?_
 refine seq_do hA rfl rfl rfl (does_move rfl) fun a hA => ?_
 rcases Bool.eq_false_or_eq_true (decide (((k : Nat) : Int) < ((nn : Nat) : Int))) with hb18 | hb18
 ·
  have hb18' := of_decide_eq_true hb18
  refine seq_do (v := .bool true) hA rfl rfl rfl (does_bin rfl rfl (fun w => (bin_lss w).trans (by rw [hb18]))) fun a hA => ?_
  refine seq_end ?_
  refine hK17 _ _ ?_
  refine wp_cond_true (hA.ev rfl) ?_
  refine wp_skip ?_
  refine hK16 _ _ ?_
  refine wp_seq_k (fun K19 hK19 => ?_)
  refine wp_block ?_
  refine wp_seq_k (fun K20 hK20 => ?_)
  refine wp_region_lit ?_
  refine seq_do hA rfl rfl rfl (does_move rfl) fun a hA => ?_
  refine seq_do hA rfl rfl rfl (does_move rfl) fun a hA => ?_
  refine seq_do hA rfl rfl rfl (does_move rfl) fun a hA => ?_
  refine seq_do (v := .int .i64 (((an + nn : Nat) : Int))) hA rfl rfl rfl (does_bin rfl rfl (fun w => (bin_add (i64In (by omega) (by omega)) w).trans (by rw [show (((an : Nat) : Int) + ((nn : Nat) : Int) : Int) = ((an + nn : Nat) : Int) from by omega]))) fun a hA => ?_
  refine seq_do (v := .int .i64 (((an + nn - 1 : Nat) : Int))) hA rfl rfl rfl (does_bin rfl rfl (fun w => (bin_sub (i64In (by omega) (by omega)) w).trans (by rw [show (((an + nn : Nat) : Int) - 1 : Int) = ((an + nn - 1 : Nat) : Int) from by omega]))) fun a hA => ?_
  refine seq_do hA rfl rfl rfl (does_move rfl) fun a hA => ?_
  refine seq_do (v := .int .i64 ((((an + nn - 1) - k : Nat) : Int))) hA rfl rfl rfl (does_bin rfl rfl (fun w => (bin_sub (i64In (by omega) (by omega)) w).trans (by rw [show (((an + nn - 1 : Nat) : Int) - ((k : Nat) : Int) : Int) = (((an + nn - 1) - k : Nat) : Int) from by omega]))) fun a hA => ?_
  obtain ⟨bx21, ox22, hx23, hx24, hx25⟩ := rb_addr (i := (an + nn - 1) - k) hb (by omega)
  refine seq_do (v := .pointer (some ⟨bx21, ox22 + ((an + nn - 1) - k), none⟩)) hA rfl rfl rfl (does_indexRow (k := (an + nn - 1) - k) Tryd.underlying22 (by kernel_rfl) rfl rfl (by first | rfl | omega) hx23 (by omega)) fun a hA => ?_
  refine seq_do (v := .int .u8 ((((l.getD ((an + nn - 1) - k) 0).toNat : Nat) : Int))) hA rfl rfl rfl (does_loadB hS hx24 (hx25 ((an + nn - 1) - k) (by omega)) GvC_is1_5 rfl) fun a hA => ?_
  refine seq_do hA rfl rfl rfl (does_assign rfl) fun a hA => ?_
  refine seq_end ?_
  refine hK20 _ _ ?_
  refine wp_seq_k (fun K26 hK26 => ?_)
  refine wp_seq_k (fun K27 hK27 => ?_)
  refine wp_region_lit ?_
  refine seq_do hA rfl rfl rfl (does_move rfl) fun a hA => ?_
  refine seq_end ?_
  refine hK27 _ _ ?_
  refine wp_cond_split (t := bg) (hA.ev rfl) (fun hc28 => ?_) (fun hc28 => ?_)
  ·
   refine wp_region_lit ?_
   refine seq_do hA rfl rfl rfl (does_move rfl) fun a hA => ?_
   refine seq_do hA rfl rfl rfl (does_move rfl) fun a hA => ?_
   refine seq_do hA rfl rfl rfl (does_move rfl) fun a hA => ?_
   refine seq_do (v := .int .i64 (((an + k : Nat) : Int))) hA rfl rfl rfl (does_bin rfl rfl (fun w => (bin_add (i64In (by omega) (by omega)) w).trans (by rw [show (((an : Nat) : Int) + ((k : Nat) : Int) : Int) = ((an + k : Nat) : Int) from by omega]))) fun a hA => ?_
   obtain ⟨bx29, ox30, hx31, hx32, hx33⟩ := rb_addr (i := an + k) hb (by omega)
   refine seq_do (v := .pointer (some ⟨bx29, ox30 + (an + k), none⟩)) hA rfl rfl rfl (does_indexRow (k := an + k) Tryd.underlying22 (by kernel_rfl) rfl rfl (by first | rfl | omega) hx31 (by omega)) fun a hA => ?_
   refine seq_do (v := .int .u8 ((((l.getD (an + k) 0).toNat : Nat) : Int))) hA rfl rfl rfl (does_loadB hS hx32 (hx33 (an + k) (by omega)) GvC_is1_5 rfl) fun a hA => ?_
   refine seq_do hA rfl rfl rfl (does_assign rfl) fun a hA => ?_
   refine seq_end ?_
   refine hK26 _ _ ?_
   refine wp_region_lit ?_
   refine seq_do hA rfl rfl rfl (does_move rfl) fun a hA => ?_
   refine seq_newU (us := [256]) (t := 49) (m := 1) hA hS rfl rfl rfl (does_buildSlice rfl (by kernel_rfl)) (by simp [Dig]) ?_
   intro g34 w35 hS a hA
   refine seq_call hA rfl rfl rfl (enters_func  rfl rfl (fun w => by kernel_rfl)) (rtimes256 (x := upK bg ((l.drop an).take nn) k) _ _ hxl (hS.rd 1 rfl) (hS.rd 0 rfl) hup.2) ?_
   rintro _ w40 ⟨ro36, rc37, rfl, ho38, hb39⟩
   replace hS := hS.call hb39
   replace hS := hS.addR ho38.rd
   refine ⟨_, rfl, ?_⟩
   intro a hA
   refine seq_do hA rfl rfl rfl (does_move rfl) fun a hA => ?_
   have hX8 := UInt8.toNat_lt (l.getD (an + k) 0)
   refine seq_do (v := .int .u64 ((((l.getD (an + k) 0).toNat : Nat) : Int))) hA rfl rfl rfl (does_convert rfl (ar_conv Tryd.underlying5 Tryd.underlying51 (in_u64 (by omega) (by omega)))) fun a hA => ?_
   refine seq_call hA rfl rfl rfl (enters_func  rfl rfl (fun w => by kernel_rfl)) (rof_any ((l.getD (an + k) 0).toNat) _ (by omega)) ?_
   rintro _ w45 ⟨ro41, rc42, rfl, ho43, hb44⟩
   replace hS := hS.call hb44
   replace hS := hS.addR ho43.rd
   refine ⟨_, rfl, ?_⟩
   intro a hA
   refine seq_call hA rfl rfl rfl (enters_func  rfl rfl (fun w => by kernel_rfl)) (plus_any _ _ (hS.rd 1 rfl) (hS.rd 0 rfl) (Nat.le_trans (words_mul_length (k := 512) (m := 1) hup.2 (by rw [words_256]; decide)) (by decide)) (byte_words (by omega))) ?_
   rintro _ w50 ⟨ro46, rc47, rfl, ho48, hb49⟩
   replace hS := hS.call hb49
   replace hS := hS.addR ho48.rd
   refine ⟨_, rfl, ?_⟩
   intro a hA
   refine seq_do hA rfl rfl rfl (does_assign rfl) fun a hA => ?_
   refine seq_end ?_
   refine hK19 _ _ ?_
   refine wp_region_lit ?_
   refine seq_do hA rfl rfl rfl (does_move rfl) fun a hA => ?_
   refine seq_do (v := .int .i64 (((k + 1 : Nat) : Int))) hA rfl rfl rfl (does_bin rfl rfl (fun w => (bin_add (i64In (by omega) (by omega)) w).trans (by rw [show (((k : Nat) : Int) + 1 : Int) = ((k + 1 : Nat) : Int) from by omega]))) fun a hA => ?_
   refine seq_do hA rfl rfl rfl (does_assign rfl) fun a hA => ?_
   refine seq_end ?_
   have hst := upK_step (bg := bg) (p := ((l.drop an).take nn)) (k := k) (by omega)
   rw [show (bqB bg ((l.drop an).take nn)).getD k 0 = l.getD (an + k) 0 from by rw [hc28]; exact bq_big (by omega)] at hst
   refine hK14 _ _ _ (by omega) ⟨k + 1, words (upK bg ((l.drop an).take nn) k * 256 + (l.getD (an + k) 0).toNat), ro46, rc47, rfl, ⟨by omega, by rw [hst], ho48.nocap, ho48.caps⟩, hA.keep _ ⟨rfl, rfl, rfl, rfl, rfl, rfl, rfl, rfl, rfl, rfl, rfl, rfl, rfl, rfl, rfl, rfl, trivial⟩, ((hS.pickR [(ro46, words (upK bg ((l.drop an).take nn) k * 256 + (l.getD (an + k) 0).toNat)), (some ⟨g9, 0, none⟩, [])] ⟨⟨0, rfl⟩, ⟨⟨5, rfl⟩, trivial⟩⟩).subL _ (.refl _))⟩
  ·
   refine wp_skip ?_
   refine hK26 _ _ ?_
   refine wp_region_lit ?_
   refine seq_do hA rfl rfl rfl (does_move rfl) fun a hA => ?_
   refine seq_newU (us := [256]) (t := 49) (m := 1) hA hS rfl rfl rfl (does_buildSlice rfl (by kernel_rfl)) (by simp [Dig]) ?_
   intro g51 w52 hS a hA
   refine seq_call hA rfl rfl rfl (enters_func  rfl rfl (fun w => by kernel_rfl)) (rtimes256 (x := upK bg ((l.drop an).take nn) k) _ _ hxl (hS.rd 1 rfl) (hS.rd 0 rfl) hup.2) ?_
   rintro _ w57 ⟨ro53, rc54, rfl, ho55, hb56⟩
   replace hS := hS.call hb56
   replace hS := hS.addR ho55.rd
   refine ⟨_, rfl, ?_⟩
   intro a hA
   refine seq_do hA rfl rfl rfl (does_move rfl) fun a hA => ?_
   have hX8 := UInt8.toNat_lt (l.getD ((an + nn - 1) - k) 0)
   refine seq_do (v := .int .u64 ((((l.getD ((an + nn - 1) - k) 0).toNat : Nat) : Int))) hA rfl rfl rfl (does_convert rfl (ar_conv Tryd.underlying5 Tryd.underlying51 (in_u64 (by omega) (by omega)))) fun a hA => ?_
   refine seq_call hA rfl rfl rfl (enters_func  rfl rfl (fun w => by kernel_rfl)) (rof_any ((l.getD ((an + nn - 1) - k) 0).toNat) _ (by omega)) ?_
   rintro _ w62 ⟨ro58, rc59, rfl, ho60, hb61⟩
   replace hS := hS.call hb61
   replace hS := hS.addR ho60.rd
   refine ⟨_, rfl, ?_⟩
   intro a hA
   refine seq_call hA rfl rfl rfl (enters_func  rfl rfl (fun w => by kernel_rfl)) (plus_any _ _ (hS.rd 1 rfl) (hS.rd 0 rfl) (Nat.le_trans (words_mul_length (k := 512) (m := 1) hup.2 (by rw [words_256]; decide)) (by decide)) (byte_words (by omega))) ?_
   rintro _ w67 ⟨ro63, rc64, rfl, ho65, hb66⟩
   replace hS := hS.call hb66
   replace hS := hS.addR ho65.rd
   refine ⟨_, rfl, ?_⟩
   intro a hA
   refine seq_do hA rfl rfl rfl (does_assign rfl) fun a hA => ?_
   refine seq_end ?_
   refine hK19 _ _ ?_
   refine wp_region_lit ?_
   refine seq_do hA rfl rfl rfl (does_move rfl) fun a hA => ?_
   refine seq_do (v := .int .i64 (((k + 1 : Nat) : Int))) hA rfl rfl rfl (does_bin rfl rfl (fun w => (bin_add (i64In (by omega) (by omega)) w).trans (by rw [show (((k : Nat) : Int) + 1 : Int) = ((k + 1 : Nat) : Int) from by omega]))) fun a hA => ?_
   refine seq_do hA rfl rfl rfl (does_assign rfl) fun a hA => ?_
   refine seq_end ?_
   have hst := upK_step (bg := bg) (p := ((l.drop an).take nn)) (k := k) (by omega)
   rw [show (bqB bg ((l.drop an).take nn)).getD k 0 = l.getD (an + nn - 1 - k) 0 from by rw [hc28]; exact bq_little (by omega) hle] at hst
   refine hK14 _ _ _ (by omega) ⟨k + 1, words (upK bg ((l.drop an).take nn) k * 256 + (l.getD ((an + nn - 1) - k) 0).toNat), ro63, rc64, rfl, ⟨by omega, by rw [hst], ho65.nocap, ho65.caps⟩, hA.keep _ ⟨rfl, rfl, rfl, rfl, rfl, rfl, rfl, rfl, rfl, rfl, rfl, rfl, rfl, rfl, rfl, rfl, trivial⟩, ((hS.pickR [(ro63, words (upK bg ((l.drop an).take nn) k * 256 + (l.getD ((an + nn - 1) - k) 0).toNat)), (some ⟨g9, 0, none⟩, [])] ⟨⟨0, rfl⟩, ⟨⟨5, rfl⟩, trivial⟩⟩).subL _ (.refl _))⟩
 ·
  have hb18' := of_decide_eq_false hb18
  refine seq_do (v := .bool false) hA rfl rfl rfl (does_bin rfl rfl (fun w => (bin_lss w).trans (by rw [hb18]))) fun a hA => ?_
  refine seq_end ?_
  refine hK17 _ _ ?_
  refine wp_cond_false (hA.ev rfl) ?_
  refine wp_exit ?_
  refine hK11 _ _ ?_
  refine wp_seq_k (fun K68 hK68 => ?_)
  refine wp_region_lit ?_
  refine seq_do hA rfl rfl rfl (does_move rfl) fun a hA => ?_
  refine seq_newU (us := [1]) (t := 49) (m := 1) hA hS rfl rfl rfl (does_buildSlice rfl (by kernel_rfl)) (by simp [Dig]) ?_
  intro g69 w70 hS a hA
  have hkn : k = nn := by omega
  have hxz : xl = words (G.leN (G.lowB bg ((l.drop an).take nn))) := by rw [hxl, hkn]; have h9 := upK_all bg ((l.drop an).take nn); rw [hpl] at h9; rw [h9]
  have hz := upK_lt bg (p := ((l.drop an).take nn)) (k := nn) (by omega) (by omega)
  rw [show upK bg ((l.drop an).take nn) nn = (G.leN (G.lowB bg ((l.drop an).take nn))) from by have h9 := upK_all bg ((l.drop an).take nn); rw [hpl] at h9; exact h9] at hz
  refine seq_do (v := .agg #[.bool false, .slice ro xl.length rc, .slice (some ⟨g69, 0, none⟩) 1 1]) hA rfl rfl rfl (does_build rfl (fun w => by kernel_rfl)) fun a hA => ?_
  refine seq_call hA rfl rfl rfl (enters_func  rfl rfl (fun w => by kernel_rfl)) (rzero_any _) ?_
  rintro _ w75 ⟨f71_1, f71_c1, f71_2, f71_c2, rfl, hs72, hs73, hb74⟩
  replace hS := hS.call hb74
  replace hS := hS.addR hs72.rd
  replace hS := hS.addR hs73.rd
  refine ⟨_, rfl, ?_⟩
  intro a hA
  refine seq_do (v := .agg #[.bool false, .slice ro xl.length rc, .slice (some ⟨g69, 0, none⟩) 1 1, .bool false, .slice f71_1 0 f71_c1, .slice f71_2 1 f71_c2]) hA rfl rfl rfl (does_build rfl (fun w => by kernel_rfl)) fun a hA => ?_
  refine seq_new (vs := [.bool false, .slice none 0 0, .slice none 0 0, .bool false, .slice none 0 0, .slice none 0 0]) (t := 27) hA hS rfl rfl rfl (fun g => .pointer (some ⟨g, 0, none⟩)) (does_alloc (z := .agg #[.bool false, .slice none 0 0, .slice none 0 0, .bool false, .slice none 0 0, .slice none 0 0]) (by kernel_rfl) rfl) rfl ?_
  intro g76 w77 hS a hA
  refine seq_store (us := [.bool false, .slice ro xl.length rc, .slice (some ⟨g69, 0, none⟩) 1 1, .bool false, .slice f71_1 0 f71_c1, .slice f71_2 1 f71_c2]) hA hS rfl rfl (sets_store rfl rfl rfl (by kernel_rfl) hS 0 rfl rfl rfl) 0 rfl rfl rfl rfl ?_
  intro w78 hS
  refine seq_end ?_
  refine hK68 _ _ ?_
  refine wp_seq_k (fun K79 hK79 => ?_)
  refine wp_seq_k (fun K80 hK80 => ?_)
  refine wp_region_lit ?_
  refine seq_do hA rfl rfl rfl (does_move rfl) fun a hA => ?_
  refine seq_do hA rfl rfl rfl (does_move rfl) fun a hA => ?_
  refine seq_do hA rfl rfl rfl (does_move rfl) fun a hA => ?_
  refine seq_call hA rfl rfl rfl (enters_func  rfl rfl (fun w => by kernel_rfl)) (rsizeX (x := (G.leN (G.lowB bg ((l.drop an).take nn)))) _ hxz (hS.rd 3 rfl) hz.2) ?_
  rintro _ w82 ⟨rfl, hb81⟩
  replace hb81 := below_eq hb81
  replace hS := hS.call hb81
  refine ⟨_, rfl, ?_⟩
  intro a hA
  refine seq_do hA rfl rfl rfl (does_move rfl) fun a hA => ?_
  refine seq_do (v := .int .i64 (((8 * nn : Nat) : Int))) hA rfl rfl rfl (does_bin rfl rfl (ar_mul ((in_i64 (by omega) (by omega)).trans (by omega)))) fun a hA => ?_
  rcases Bool.eq_false_or_eq_true ((((bl (G.leN (G.lowB bg ((l.drop an).take nn))) : Nat) : Int) == ((8 * nn : Nat) : Int))) with hb83 | hb83
  ·
   have hb83' := eq_of_beq hb83
   refine seq_do (v := .bool true) hA rfl rfl rfl (does_bin rfl rfl (fun w => (bin_eql w).trans (by rw [hb83]))) fun a hA => ?_
   refine seq_do (v := .bool true) hA rfl rfl rfl (does_pick rfl rfl rfl rfl) fun a hA => ?_
   refine seq_end ?_
   refine hK80 _ _ ?_
   refine wp_cond_true (hA.ev rfl) ?_
   refine wp_seq_k (fun K84 hK84 => ?_)
   refine wp_region_lit ?_
   refine seq_newU (us := [1]) (t := 49) (m := 1) hA hS rfl rfl rfl (does_buildSlice rfl (by kernel_rfl)) (by simp [Dig]) ?_
   intro g85 w86 hS a hA
   refine seq_do hA rfl rfl rfl (does_move rfl) fun a hA => ?_
   refine seq_do (v := .int .i64 (((8 * nn : Nat) : Int))) hA rfl rfl rfl (does_bin rfl rfl (ar_mul ((in_i64 (by omega) (by omega)).trans (by omega)))) fun a hA => ?_
   refine seq_call hA rfl rfl rfl (enters_func  rfl rfl (fun w => by kernel_rfl)) (rup1 _ (hS.rd 0 rfl) (n := 8 * nn) (by omega)) ?_
   rintro _ w91 ⟨ro87, rc88, rfl, ho89, hb90⟩
   replace hS := hS.call hb90
   replace hS := hS.addR ho89.rd
   refine ⟨_, rfl, ?_⟩
   intro a hA
   refine seq_newU (us := [1]) (t := 49) (m := 1) hA hS rfl rfl rfl (does_buildSlice rfl (by kernel_rfl)) (by simp [Dig]) ?_
   intro g92 w93 hS a hA
   refine seq_do (v := .agg #[.bool false, .slice ro87 ((words (2 ^ (8 * nn))).length) rc88, .slice (some ⟨g92, 0, none⟩) 1 1]) hA rfl rfl rfl (does_build rfl (fun w => by kernel_rfl)) fun a hA => ?_
   refine seq_new (vs := [.bool false, .slice none 0 0, .slice none 0 0]) (t := 25) hA hS rfl rfl rfl (fun g => .pointer (some ⟨g, 0, none⟩)) (does_alloc (z := .agg #[.bool false, .slice none 0 0, .slice none 0 0]) (by kernel_rfl) rfl) rfl ?_
   intro g94 w95 hS a hA
   refine seq_store (us := [.bool false, .slice ro87 ((words (2 ^ (8 * nn))).length) rc88, .slice (some ⟨g92, 0, none⟩) 1 1]) hA hS rfl rfl (sets_store rfl rfl rfl (by kernel_rfl) hS 0 rfl rfl rfl) 0 rfl rfl rfl rfl ?_
   intro w96 hS
   refine seq_end ?_
   refine hK84 _ _ ?_
   have hJ113 : ∀ a w1, (∃ (J105 : Option Addr) (J106 : Nat) (J107 : Option Addr) (J108 : Nat), Sl a 79 [(0, .slice so l.length ca), (1, .int .i64 (((an : Nat) : Int))), (2, .int .i64 (((nn : Nat) : Int))), (3, .bool bg), (4, .bool true), (10, .pointer (some ⟨g2, 0, none⟩)), (11, .int .i64 0), (12, .slice ro xl.length rc), (13, .int .i64 (((k : Nat) : Int))), (15, .pointer (some ⟨g76, 0, none⟩)), (16, .pointer (some ⟨g94, 0, none⟩)), (17, .slice so l.length ca), (18, .int .i64 (((l.length : Nat) : Int))), (19, .int .i64 (((an : Nat) : Int))), (20, .int .i64 (((nn : Nat) : Int))), (21, .bool true), (22, .bool false), (24, .slice (some ⟨g9, 0, none⟩) 0 0), (25, .int .i64 (((k : Nat) : Int))), (26, .int .i64 (((nn : Nat) : Int))), (27, .bool false), (53, .slice ro xl.length rc), (54, .slice (some ⟨g69, 0, none⟩) 1 1), (55, .agg #[.bool false, .slice ro xl.length rc, .slice (some ⟨g69, 0, none⟩) 1 1]), (56, .agg #[.bool false, .slice f71_1 0 f71_c1, .slice f71_2 1 f71_c2]), (57, .agg #[.bool false, .slice ro xl.length rc, .slice (some ⟨g69, 0, none⟩) 1 1, .bool false, .slice f71_1 0 f71_c1, .slice f71_2 1 f71_c2]), (58, .bool true), (59, .bool true), (60, .slice ro xl.length rc), (61, .int .i64 (((bl (G.leN (G.lowB bg ((l.drop an).take nn))) : Nat) : Int))), (62, .int .i64 (((nn : Nat) : Int))), (63, .int .i64 (((8 * nn : Nat) : Int))), (64, .bool true), (65, .bool true), (66, .slice (some ⟨g85, 0, none⟩) 1 1), (67, .int .i64 (((nn : Nat) : Int))), (68, .int .i64 (((8 * nn : Nat) : Int))), (69, .slice ro87 ((words (2 ^ (8 * nn))).length) rc88), (70, .slice (some ⟨g92, 0, none⟩) 1 1), (71, .agg #[.bool false, .slice ro87 ((words (2 ^ (8 * nn))).length) rc88, .slice (some ⟨g92, 0, none⟩) 1 1])] ∧ St w w1 [(g94, [.bool false, .slice ro87 ((words (2 ^ (8 * nn))).length) rc88, .slice (some ⟨g92, 0, none⟩) 1 1]), (g76, [.bool true, .slice J105 ((words (2 ^ (8 * nn) - (G.leN (G.lowB bg ((l.drop an).take nn))))).length) J106, .slice J107 1 J108, .bool false, .slice f71_1 0 f71_c1, .slice f71_2 1 f71_c2]), (g2, [.bool false, .slice none 0 0, .slice none 0 0, .bool false, .slice none 0 0, .slice none 0 0])] [(J107, [1]), (J105, words (2 ^ (8 * nn) - (G.leN (G.lowB bg ((l.drop an).take nn))))), (some ⟨g92, 0, none⟩, [1]), (ro87, words (2 ^ (8 * nn))), (some ⟨g85, 0, none⟩, [1]), (f71_2, [1]), (f71_1, []), (some ⟨g69, 0, none⟩, [1]), (ro, xl), (some ⟨g9, 0, none⟩, [])] [] ∧ (J107 = none → J108 = 0) ∧ ([1] : List Nat).length ≤ J108 ∧ (J105 = none → J106 = 0) ∧ (words (2 ^ (8 * nn) - (G.leN (G.lowB bg ((l.drop an).take nn)))) : List Nat).length ≤ J106) → K79 a w1 := by
    clear hA hS
    rintro a w114 ⟨J105, J106, J107, J108, hA, hS, hn109, hc110, hn111, hc112⟩
    refine hK79 _ _ ?_
    refine wp_seq_k (fun K115 hK115 => ?_)
    refine wp_region_lit ?_
    refine seq_do hA rfl rfl rfl (does_loadS hS GvC_isS_27 rfl 1 rfl (cs := [.bool true, .slice J105 ((words (2 ^ (8 * nn) - (G.leN (G.lowB bg ((l.drop an).take nn))))).length) J106, .slice J107 1 J108, .bool false, .slice f71_1 0 f71_c1, .slice f71_2 1 f71_c2]) rfl rfl) fun a hA => ?_
    refine seq_store (us := [.bool true, .slice J105 ((words (2 ^ (8 * nn) - (G.leN (G.lowB bg ((l.drop an).take nn))))).length) J106, .slice J107 1 J108, .bool false, .slice f71_1 0 f71_c1, .slice f71_2 1 f71_c2]) hA hS rfl rfl (sets_store rfl rfl rfl (by kernel_rfl) hS 2 rfl rfl rfl) 2 rfl rfl rfl rfl ?_
    intro w116 hS
    refine seq_do hA rfl rfl rfl (does_assign rfl) fun a hA => ?_
    refine seq_end ?_
    refine hK115 _ _ ?_
    refine wp_ret ?_
    refine hret _ _ ?_
    refine ends (v := .tuple #[.agg #[.bool true, .slice J105 ((words (2 ^ (8 * nn) - (G.leN (G.lowB bg ((l.drop an).take nn))))).length) J106, .slice J107 1 J108, .bool false, .slice f71_1 0 f71_c1, .slice f71_2 1 f71_c2], .int .i64 0]) hA rfl (.cons (res_cell hS GvC_isS_27 rfl 2 rfl (cs := [.bool true, .slice J105 ((words (2 ^ (8 * nn) - (G.leN (G.lowB bg ((l.drop an).take nn))))).length) J106, .slice J107 1 J108, .bool false, .slice f71_1 0 f71_c1, .slice f71_2 1 f71_c2]) rfl rfl) (.cons (res_tmp rfl) .nil)) rfl ?_
    have e9 : G.numQ bg true ((l.drop an).take nn) = Q6.whole true (2 ^ (8 * nn) - (G.leN (G.lowB bg ((l.drop an).take nn)))) := by unfold G.numQ; rw [hpl, if_pos ⟨rfl, (top_bit (by rw [G.low_len]; exact hpl) hn1).1 (by omega)⟩, pow_8]
    rw [e9]
    exact ⟨J105, J106, J107, J108, f71_1, f71_c1, f71_2, f71_c2, rfl, ⟨⟨(hS.rd 1 rfl), hn111, hc112⟩, ⟨(hS.rd 0 rfl), hn109, hc110⟩, ⟨(hS.rd 6 rfl), hs72.nil, hs72.cap⟩, ⟨(hS.rd 5 rfl), hs73.nil, hs73.cap⟩⟩, hS.bel⟩
   refine wp_draw (S := fun w1 => St w w1 [(g94, [.bool false, .slice ro87 ((words (2 ^ (8 * nn))).length) rc88, .slice (some ⟨g92, 0, none⟩) 1 1]), (g2, [.bool false, .slice none 0 0, .slice none 0 0, .bool false, .slice none 0 0, .slice none 0 0])] [(some ⟨g92, 0, none⟩, [1]), (ro87, words (2 ^ (8 * nn))), (some ⟨g85, 0, none⟩, [1]), (f71_2, [1]), (f71_1, []), (some ⟨g69, 0, none⟩, [1]), (ro, xl), (some ⟨g9, 0, none⟩, [])] []) (by kernel_rfl) ?_
   replace hS := hS.drew
   refine any_tk (v := .pointer (some ⟨g76, 0, none⟩)) hA 0 rfl rfl rfl rfl hP (hS.partD (.cons_cons _ (.cons _ (.cons_cons _ .slnil))) 0 rfl (.refl _)) (fun w1 hS => does_field GvC_fld_27_0 rfl rfl) fun a hA => ?_
   refine any_tk hA 2 rfl rfl rfl rfl hP (hS.partD (.cons_cons _ (.cons _ (.cons_cons _ .slnil))) 0 rfl (.refl _)) (fun w1 hS => does_loadS hS GvC_isS_25 rfl 0 rfl (cs := [.bool false, .slice ro87 ((words (2 ^ (8 * nn))).length) rc88, .slice (some ⟨g92, 0, none⟩) 1 1]) rfl rfl) fun a hA => ?_
   refine any_many (rs := [1, 3]) (by kernel_rfl) (by simp) ⟨?_, ?_, trivial⟩
   ·
    refine op_do hA 1 rfl rfl rfl rfl (does_loadS hS GvC_isS_25 rfl 1 rfl (cs := [.bool false, .slice ro xl.length rc, .slice (some ⟨g69, 0, none⟩) 1 1]) rfl rfl) (hS.partD (.cons_cons _ (.cons _ (.cons_cons _ .slnil))) 0 rfl (.refl _)) fun a hA => ?_
    refine any_one (by kernel_rfl) (op_call hA 3 rfl rfl rfl rfl (enters_func  rfl rfl (fun w => by kernel_rfl)) (rminus_any (r := true) (by rw [decide_eq_true (words_len_pos.2 (Nat.pos_iff_ne_zero.1 (Nat.two_pow_pos _)))]; rfl)) ?_)
    rintro _ w118 ⟨rfl, hb117⟩
    replace hS := hS.call hb117
    refine ⟨_, rfl, (hS.partD (.cons_cons _ (.cons _ (.cons_cons _ .slnil))) 0 rfl (.refl _)), ?_⟩
    intro a hA
    refine any_one (by kernel_rfl) (op_call hA 4 rfl rfl rfl rfl (enters_func  rfl rfl (fun w => by kernel_rfl)) (rsumW (x := (G.leN (G.lowB bg ((l.drop an).take nn)))) (y := 2 ^ (8 * nn)) hxz ⟨(hS.rd 6 rfl), hnil, hcap⟩ ⟨(hS.rd 5 rfl), (fun h => by cases h), (Nat.le_refl _)⟩ ⟨(hS.rd 1 rfl), ho89.nocap, ho89.caps⟩ ⟨(hS.rd 0 rfl), (fun h => by cases h), (Nat.le_refl _)⟩ hz.2 hy2 (by rw [pow_8]; exact hz.1)) ?_)
    rintro _ w123 ⟨f119_1, f119_c1, f119_2, f119_c2, rfl, hs120, hs121, hb122⟩
    replace hS := hS.call hb122
    replace hS := hS.addR hs120.rd
    replace hS := hS.addR hs121.rd
    refine ⟨_, rfl, (hS.partD (.cons_cons _ (.cons _ (.cons_cons _ .slnil))) 2 rfl (.refl _)), ?_⟩
    intro a hA
    refine any_tk (v := .pointer (some ⟨g76, 0, none⟩)) hA 5 rfl rfl rfl rfl hP (hS.partD (.cons_cons _ (.cons _ (.cons_cons _ .slnil))) 2 rfl (.refl _)) (fun w1 hS => does_field GvC_fld_27_0 rfl rfl) fun a hA => ?_
    refine any_one (by kernel_rfl) (op_store (us := [.bool true, .slice f119_1 ((words (2 ^ (8 * nn) - (G.leN (G.lowB bg ((l.drop an).take nn))))).length) f119_c1, .slice f119_2 1 f119_c2, .bool false, .slice f71_1 0 f71_c1, .slice f71_2 1 f71_c2]) hA hS 6 rfl rfl rfl (sets_store rfl rfl rfl (by kernel_rfl) hS 1 rfl rfl rfl) 1 rfl rfl rfl rfl ?_)
    intro w124 hS
    refine ⟨(hS.partD (.cons_cons _ (.cons _ (.cons_cons _ .slnil))) 2 rfl (.refl _)), ?_⟩
    refine any_end (by kernel_rfl) ?_
    refine hJ113 _ _ ⟨f119_1, f119_c1, f119_2, f119_c2, hA.keep _ ⟨rfl, rfl, rfl, rfl, rfl, rfl, rfl, rfl, rfl, rfl, rfl, rfl, rfl, rfl, rfl, rfl, rfl, rfl, rfl, rfl, rfl, rfl, rfl, rfl, rfl, rfl, rfl, rfl, rfl, rfl, rfl, rfl, rfl, rfl, rfl, rfl, rfl, rfl, rfl, rfl, trivial⟩, (St.pickRL hS ⟨⟨0, rfl⟩, ⟨⟨1, rfl⟩, ⟨⟨2, rfl⟩, ⟨⟨3, rfl⟩, ⟨⟨4, rfl⟩, ⟨⟨5, rfl⟩, ⟨⟨6, rfl⟩, ⟨⟨7, rfl⟩, ⟨⟨8, rfl⟩, ⟨⟨9, rfl⟩, trivial⟩⟩⟩⟩⟩⟩⟩⟩⟩⟩ [0, 1, 2] rfl (by decide)), hs121.nil, hs121.cap, hs120.nil, hs120.cap⟩
   ·
    refine op_call hA 3 rfl rfl rfl rfl (enters_func  rfl rfl (fun w => by kernel_rfl)) (rminus_any (r := true) (by rw [decide_eq_true (words_len_pos.2 (Nat.pos_iff_ne_zero.1 (Nat.two_pow_pos _)))]; rfl)) ?_
    rintro _ w126 ⟨rfl, hb125⟩
    replace hS := hS.call hb125
    refine ⟨_, rfl, (hS.partD (.cons_cons _ (.cons _ (.cons_cons _ .slnil))) 0 rfl (.refl _)), ?_⟩
    intro a hA
    refine any_one (by kernel_rfl) (op_do hA 1 rfl rfl rfl rfl (does_loadS hS GvC_isS_25 rfl 1 rfl (cs := [.bool false, .slice ro xl.length rc, .slice (some ⟨g69, 0, none⟩) 1 1]) rfl rfl) (hS.partD (.cons_cons _ (.cons _ (.cons_cons _ .slnil))) 0 rfl (.refl _)) ?_)
    intro a hA
    refine any_one (by kernel_rfl) (op_call hA 4 rfl rfl rfl rfl (enters_func  rfl rfl (fun w => by kernel_rfl)) (rsumW (x := (G.leN (G.lowB bg ((l.drop an).take nn)))) (y := 2 ^ (8 * nn)) hxz ⟨(hS.rd 6 rfl), hnil, hcap⟩ ⟨(hS.rd 5 rfl), (fun h => by cases h), (Nat.le_refl _)⟩ ⟨(hS.rd 1 rfl), ho89.nocap, ho89.caps⟩ ⟨(hS.rd 0 rfl), (fun h => by cases h), (Nat.le_refl _)⟩ hz.2 hy2 (by rw [pow_8]; exact hz.1)) ?_)
    rintro _ w131 ⟨f127_1, f127_c1, f127_2, f127_c2, rfl, hs128, hs129, hb130⟩
    replace hS := hS.call hb130
    replace hS := hS.addR hs128.rd
    replace hS := hS.addR hs129.rd
    refine ⟨_, rfl, (hS.partD (.cons_cons _ (.cons _ (.cons_cons _ .slnil))) 2 rfl (.refl _)), ?_⟩
    intro a hA
    refine any_tk (v := .pointer (some ⟨g76, 0, none⟩)) hA 5 rfl rfl rfl rfl hP (hS.partD (.cons_cons _ (.cons _ (.cons_cons _ .slnil))) 2 rfl (.refl _)) (fun w1 hS => does_field GvC_fld_27_0 rfl rfl) fun a hA => ?_
    refine any_one (by kernel_rfl) (op_store (us := [.bool true, .slice f127_1 ((words (2 ^ (8 * nn) - (G.leN (G.lowB bg ((l.drop an).take nn))))).length) f127_c1, .slice f127_2 1 f127_c2, .bool false, .slice f71_1 0 f71_c1, .slice f71_2 1 f71_c2]) hA hS 6 rfl rfl rfl (sets_store rfl rfl rfl (by kernel_rfl) hS 1 rfl rfl rfl) 1 rfl rfl rfl rfl ?_)
    intro w132 hS
    refine ⟨(hS.partD (.cons_cons _ (.cons _ (.cons_cons _ .slnil))) 2 rfl (.refl _)), ?_⟩
    refine any_end (by kernel_rfl) ?_
    refine hJ113 _ _ ⟨f127_1, f127_c1, f127_2, f127_c2, hA.keep _ ⟨rfl, rfl, rfl, rfl, rfl, rfl, rfl, rfl, rfl, rfl, rfl, rfl, rfl, rfl, rfl, rfl, rfl, rfl, rfl, rfl, rfl, rfl, rfl, rfl, rfl, rfl, rfl, rfl, rfl, rfl, rfl, rfl, rfl, rfl, rfl, rfl, rfl, rfl, rfl, rfl, trivial⟩, (St.pickRL hS ⟨⟨0, rfl⟩, ⟨⟨1, rfl⟩, ⟨⟨2, rfl⟩, ⟨⟨3, rfl⟩, ⟨⟨4, rfl⟩, ⟨⟨5, rfl⟩, ⟨⟨6, rfl⟩, ⟨⟨7, rfl⟩, ⟨⟨8, rfl⟩, ⟨⟨9, rfl⟩, trivial⟩⟩⟩⟩⟩⟩⟩⟩⟩⟩ [0, 1, 2] rfl (by decide)), hs129.nil, hs129.cap, hs128.nil, hs128.cap⟩
  ·
   have hb83' := ne_of_beq_false hb83
   refine seq_do (v := .bool false) hA rfl rfl rfl (does_bin rfl rfl (fun w => (bin_eql w).trans (by rw [hb83]))) fun a hA => ?_
   refine seq_do (v := .bool false) hA rfl rfl rfl (does_pick rfl rfl rfl rfl) fun a hA => ?_
   refine seq_end ?_
   refine hK80 _ _ ?_
   refine wp_cond_false (hA.ev rfl) ?_
   refine wp_skip ?_
   refine hK79 _ _ ?_
   refine wp_seq_k (fun K133 hK133 => ?_)
   refine wp_region_lit ?_
   refine seq_do hA rfl rfl rfl (does_loadS hS GvC_isS_27 rfl 0 rfl (cs := [.bool false, .slice ro xl.length rc, .slice (some ⟨g69, 0, none⟩) 1 1, .bool false, .slice f71_1 0 f71_c1, .slice f71_2 1 f71_c2]) rfl rfl) fun a hA => ?_
   refine seq_store (us := [.bool false, .slice ro xl.length rc, .slice (some ⟨g69, 0, none⟩) 1 1, .bool false, .slice f71_1 0 f71_c1, .slice f71_2 1 f71_c2]) hA hS rfl rfl (sets_store rfl rfl rfl (by kernel_rfl) hS 1 rfl rfl rfl) 1 rfl rfl rfl rfl ?_
   intro w134 hS
   refine seq_do hA rfl rfl rfl (does_assign rfl) fun a hA => ?_
   refine seq_end ?_
   refine hK133 _ _ ?_
   refine wp_ret ?_
   refine hret _ _ ?_
   refine ends (v := .tuple #[.agg #[.bool false, .slice ro xl.length rc, .slice (some ⟨g69, 0, none⟩) 1 1, .bool false, .slice f71_1 0 f71_c1, .slice f71_2 1 f71_c2], .int .i64 0]) hA rfl (.cons (res_cell hS GvC_isS_27 rfl 1 rfl (cs := [.bool false, .slice ro xl.length rc, .slice (some ⟨g69, 0, none⟩) 1 1, .bool false, .slice f71_1 0 f71_c1, .slice f71_2 1 f71_c2]) rfl rfl) (.cons (res_tmp rfl) .nil)) rfl ?_
   have e9 : G.numQ bg true ((l.drop an).take nn) = Q6.whole false (G.leN (G.lowB bg ((l.drop an).take nn))) := by unfold G.numQ; rw [hpl, if_neg (fun k => by have h9 := (top_bit (by rw [G.low_len]; exact hpl) hn1).2 k.2; omega)]
   subst hxz
   rw [e9]
   exact ⟨ro, rc, some ⟨g69, 0, none⟩, 1, f71_1, f71_c1, f71_2, f71_c2, rfl, ⟨⟨(hS.rd 3 rfl), hnil, hcap⟩, ⟨(hS.rd 2 rfl), (fun h => by cases h), (Nat.le_refl _)⟩, ⟨(hS.rd 1 rfl), hs72.nil, hs72.cap⟩, ⟨(hS.rd 0 rfl), hs73.nil, hs73.cap⟩⟩, hS.bel⟩
theorem rget_ok {w : World} {so : Option Addr} {ca : Nat} {l : List UInt8} (hb : G.Rb w so l) (hca : l.length ≤ ca) (hl : l.length ≤ 140737488351232) {an nn : Nat} (hn1 : 1 ≤ nn) (hn64 : nn ≤ 64) (hle : an + nn ≤ l.length) (bg sg : Bool) : Calls Tryd.prog 7 #[.slice so l.length ca, .int .i64 ((an : Nat) : Int), .int .i64 ((nn : Nat) : Int), .bool bg, .bool sg] w (AnsN w (G.numQ bg sg ((l.drop an).take nn), 0)) := by
 cases sg
 ·
  exact rget_false hb hca hl hn1 hn64 hle bg
 ·
  exact rget_true hb hca hl hn1 hn64 hle bg
theorem rget_no1 {w : World} {so : Option Addr} {ca : Nat} {l : List UInt8} (hb : G.Rb w so l) (hca : l.length ≤ ca) (hl : l.length ≤ 140737488351232) {ap size : Int} (hap0 : -9223372036854775808 ≤ ap) (hap1 : ap ≤ 9223372036854775807) (hsize0 : -9223372036854775808 ≤ size) (hsize1 : size ≤ 9223372036854775807) (bg sg : Bool) (h1 : G.okSize size = false) : Calls Tryd.prog 7 #[.slice so l.length ca, .int .i64 ap, .int .i64 size, .bool bg, .bool sg] w (AnsN w (Q6.zero, 1)) := by
 have hk3 : okG l.length ap size = false := by unfold okG; rw [h1]; rfl
 have hS : St w w [] [] [] := St.start w
 refine walk_of (l := [(0, .slice so l.length ca), (1, .int .i64 ap), (2, .int .i64 size), (3, .bool bg), (4, .bool sg)]) Tryd.func7 rfl Tryd.ntmps7 rfl rfl ?_
 intro Q hret hnorm hP a hA
 refine wp_seq_k (fun K1 hK1 => ?_)
 refine wp_region_lit ?_
 refine seq_new (vs := [.bool false, .slice none 0 0, .slice none 0 0, .bool false, .slice none 0 0, .slice none 0 0]) (t := 27) hA hS rfl rfl rfl (fun g => .pointer (some ⟨g, 0, none⟩)) (does_alloc (z := .agg #[.bool false, .slice none 0 0, .slice none 0 0, .bool false, .slice none 0 0, .slice none 0 0]) (by kernel_rfl) rfl) rfl ?_
 intro g2 w3 hS a hA
 refine seq_do hA rfl rfl rfl (does_assign rfl) fun a hA => ?_
 refine seq_end ?_
 refine hK1 _ _ ?_
 refine wp_seq_k (fun K4 hK4 => ?_)
 refine wp_seq_k (fun K5 hK5 => ?_)
 refine wp_region_lit ?_
 refine seq_do hA rfl rfl rfl (does_move rfl) fun a hA => ?_
 refine seq_do (v := .int .i64 (((l.length : Nat) : Int))) hA rfl rfl rfl (does_len Tryd.underlying22 rfl) fun a hA => ?_
 refine seq_do hA rfl rfl rfl (does_move rfl) fun a hA => ?_
 refine seq_do hA rfl rfl rfl (does_move rfl) fun a hA => ?_
 refine seq_call hA rfl rfl rfl (enters_func  rfl rfl (fun w => by kernel_rfl)) (rin_any hl (by omega) (by omega) (by omega) (by omega) hk3) ?_
 rintro _ w7 ⟨rfl, hb6⟩
 replace hS := hS.call hb6
 refine ⟨_, rfl, ?_⟩
 intro a hA
 refine seq_do (v := .bool true) hA rfl rfl rfl (does_un rfl un_not) fun a hA => ?_
 refine seq_end ?_
 refine hK5 _ _ ?_
 refine wp_cond_true (hA.ev rfl) ?_
 refine wp_seq_k (fun K8 hK8 => ?_)
 refine wp_region_lit ?_
 refine seq_do (v := .agg #[.bool false, .slice none 0 0, .slice none 0 0, .bool false, .slice none 0 0, .slice none 0 0]) hA rfl rfl rfl (does_build rfl (fun w => by kernel_rfl)) fun a hA => ?_
 refine seq_store (us := [.bool false, .slice none 0 0, .slice none 0 0, .bool false, .slice none 0 0, .slice none 0 0]) hA hS rfl rfl (sets_store rfl rfl rfl (by kernel_rfl) hS 0 rfl rfl rfl) 0 rfl rfl rfl rfl ?_
 intro w9 hS
 refine seq_do hA rfl rfl rfl (does_assign rfl) fun a hA => ?_
 refine seq_end ?_
 refine hK8 _ _ ?_
 refine wp_ret ?_
 refine hret _ _ ?_
 refine ends (v := .tuple #[.agg #[.bool false, .slice none 0 0, .slice none 0 0, .bool false, .slice none 0 0, .slice none 0 0], .int .i64 1]) hA rfl (.cons (res_cell hS GvC_isS_27 rfl 0 rfl (cs := [.bool false, .slice none 0 0, .slice none 0 0, .bool false, .slice none 0 0, .slice none 0 0]) rfl rfl) (.cons (res_tmp rfl) .nil)) rfl ?_
 exact ⟨none, 0, none, 0, none, 0, none, 0, rfl, ⟨Sc.none _, Sc.none _, Sc.none _, Sc.none _⟩, hS.bel⟩
theorem rget_no2 {w : World} {so : Option Addr} {ca : Nat} {l : List UInt8} (hb : G.Rb w so l) (hca : l.length ≤ ca) (hl : l.length ≤ 140737488351232) {ap size : Int} (hap0 : -9223372036854775808 ≤ ap) (hap1 : ap ≤ 9223372036854775807) (hsize0 : -9223372036854775808 ≤ size) (hsize1 : size ≤ 9223372036854775807) (bg sg : Bool) (h1 : G.okSize size = true) (h2 : G.inB l.length ap size = false) : Calls Tryd.prog 7 #[.slice so l.length ca, .int .i64 ap, .int .i64 size, .bool bg, .bool sg] w (AnsN w (Q6.zero, 1)) := by
 have hk3 : okG l.length ap size = false := by unfold okG; rw [h1, h2]; rfl
 have hS : St w w [] [] [] := St.start w
 refine walk_of (l := [(0, .slice so l.length ca), (1, .int .i64 ap), (2, .int .i64 size), (3, .bool bg), (4, .bool sg)]) Tryd.func7 rfl Tryd.ntmps7 rfl rfl ?_
 intro Q hret hnorm hP a hA
 refine wp_seq_k (fun K1 hK1 => ?_)
 refine wp_region_lit ?_
 refine seq_new (vs := [.bool false, .slice none 0 0, .slice none 0 0, .bool false, .slice none 0 0, .slice none 0 0]) (t := 27) hA hS rfl rfl rfl (fun g => .pointer (some ⟨g, 0, none⟩)) (does_alloc (z := .agg #[.bool false, .slice none 0 0, .slice none 0 0, .bool false, .slice none 0 0, .slice none 0 0]) (by kernel_rfl) rfl) rfl ?_
 intro g2 w3 hS a hA
 refine seq_do hA rfl rfl rfl (does_assign rfl) fun a hA => ?_
 refine seq_end ?_
 refine hK1 _ _ ?_
 refine wp_seq_k (fun K4 hK4 => ?_)
 refine wp_seq_k (fun K5 hK5 => ?_)
 refine wp_region_lit ?_
 refine seq_do hA rfl rfl rfl (does_move rfl) fun a hA => ?_
 refine seq_do (v := .int .i64 (((l.length : Nat) : Int))) hA rfl rfl rfl (does_len Tryd.underlying22 rfl) fun a hA => ?_
 refine seq_do hA rfl rfl rfl (does_move rfl) fun a hA => ?_
 refine seq_do hA rfl rfl rfl (does_move rfl) fun a hA => ?_
 refine seq_call hA rfl rfl rfl (enters_func  rfl rfl (fun w => by kernel_rfl)) (rin_any hl (by omega) (by omega) (by omega) (by omega) hk3) ?_
 rintro _ w7 ⟨rfl, hb6⟩
 replace hS := hS.call hb6
 refine ⟨_, rfl, ?_⟩
 intro a hA
 refine seq_do (v := .bool true) hA rfl rfl rfl (does_un rfl un_not) fun a hA => ?_
 refine seq_end ?_
 refine hK5 _ _ ?_
 refine wp_cond_true (hA.ev rfl) ?_
 refine wp_seq_k (fun K8 hK8 => ?_)
 refine wp_region_lit ?_
 refine seq_do (v := .agg #[.bool false, .slice none 0 0, .slice none 0 0, .bool false, .slice none 0 0, .slice none 0 0]) hA rfl rfl rfl (does_build rfl (fun w => by kernel_rfl)) fun a hA => ?_
 refine seq_store (us := [.bool false, .slice none 0 0, .slice none 0 0, .bool false, .slice none 0 0, .slice none 0 0]) hA hS rfl rfl (sets_store rfl rfl rfl (by kernel_rfl) hS 0 rfl rfl rfl) 0 rfl rfl rfl rfl ?_
 intro w9 hS
 refine seq_do hA rfl rfl rfl (does_assign rfl) fun a hA => ?_
 refine seq_end ?_
 refine hK8 _ _ ?_
 refine wp_ret ?_
 refine hret _ _ ?_
 refine ends (v := .tuple #[.agg #[.bool false, .slice none 0 0, .slice none 0 0, .bool false, .slice none 0 0, .slice none 0 0], .int .i64 1]) hA rfl (.cons (res_cell hS GvC_isS_27 rfl 0 rfl (cs := [.bool false, .slice none 0 0, .slice none 0 0, .bool false, .slice none 0 0, .slice none 0 0]) rfl rfl) (.cons (res_tmp rfl) .nil)) rfl ?_
 exact ⟨none, 0, none, 0, none, 0, none, 0, rfl, ⟨Sc.none _, Sc.none _, Sc.none _, Sc.none _⟩, hS.bel⟩
theorem getR_any {w : World} {so : Option Addr} {ca : Nat} {l : List UInt8} (hb : G.Rb w so l) (hca : l.length ≤ ca) (hl : l.length ≤ 140737488351232) {ap size : Int} (hap0 : -9223372036854775808 ≤ ap) (hap1 : ap ≤ 9223372036854775807) (hsize0 : -9223372036854775808 ≤ size) (hsize1 : size ≤ 9223372036854775807) (bg sg : Bool) : Calls Tryd.prog 7 #[.slice so l.length ca, .int .i64 ap, .int .i64 size, .bool bg, .bool sg] w (AnsN w (getQ l ap size bg sg)) := by
 unfold getQ okG
 cases h1 : G.okSize size with
 | false => simp only [Bool.false_and, Bool.false_eq_true, if_false]; exact rget_no1 hb hca hl hap0 hap1 hsize0 hsize1 bg sg h1
 | true =>
  cases h2 : G.inB l.length ap size with
  | false => simp only [Bool.and_false, Bool.false_eq_true, if_false]; exact rget_no2 hb hca hl hap0 hap1 hsize0 hsize1 bg sg h1 h2
  | true =>
   simp only [Bool.and_true, if_true]
   have k1 : 1 ≤ size ∧ size ≤ 64 := of_decide_eq_true h1
   have k2 : 0 ≤ ap ∧ 0 ≤ size ∧ ap ≤ (l.length : Int) - size := of_decide_eq_true h2
   obtain ⟨an, rfl⟩ := Int.eq_ofNat_of_zero_le k2.1
   obtain ⟨nn, rfl⟩ := Int.eq_ofNat_of_zero_le k2.2.1
   rw [Int.toNat_natCast, Int.toNat_natCast]
   exact rget_ok hb hca hl (by omega) (by omega) (by omega) bg sg
end Go.Proofs.YtbajcflbimmnhaaDoor
namespace Go.Proofs.YtbajcflbimmnhaaDoor
open Go.RowKit
set_option linter.unusedVariables false
set_option linter.unusedSimpArgs false
set_option maxRecDepth 100000
theorem GvD_isS_27 : IsS Tryd.prog 27 6 := ⟨⟨_, Tryd.underlying27⟩, by kernel_rfl⟩
theorem lenQ_zz : LenQ Q6.zero := ⟨by decide, by decide, by decide, by decide⟩
theorem numQ_len (bg sg : Bool) {p : List UInt8} (hp : p.length ≤ 64) : LenQ (G.numQ bg sg p) := by
 unfold G.numQ
 have hlt := G.leN_lt (G.lowB bg p)
 rw [G.low_len] at hlt
 split
 ·
  exact lenQ_whole (G.small_words hp (Nat.sub_le _ _))
 ·
  exact lenQ_whole (G.small_words hp (Nat.le_of_lt hlt))
theorem getQ_len (l : List UInt8) (ap size : Int) (bg sg : Bool) : LenQ (getQ l ap size bg sg).1 := by
 unfold getQ
 split
 ·
  rename_i h
  have h1 : G.okSize size = true := by unfold okG at h; simp at h; exact h.1
  have k1 : 1 ≤ size ∧ size ≤ 64 := of_decide_eq_true h1
  exact numQ_len bg sg (by rw [List.length_take]; omega)
 ·
  exact lenQ_zz
theorem getsW_any {w : World} {so : Option Addr} {ca : Nat} {l : List UInt8} (hb : G.Rb w so l) (hca : l.length ≤ ca) (hl : l.length ≤ 140737488351232) {ap size : Int} (hap0 : -9223372036854775808 ≤ ap) (hap1 : ap ≤ 9223372036854775807) (hsize0 : -9223372036854775808 ≤ size) (hsize1 : size ≤ 9223372036854775807) (bg sg : Bool) {z : Q6 × Int} (hz : getQ l ap size bg sg = z) (lz : LenQ z.1) : Calls Tryd.prog 3 #[.slice so l.length ca, .int .i64 ap, .int .i64 size, .bool bg, .bool sg] w fun e w' => e = .returned (.bool true) ∧ Below w.heap.size w w' := by
 have hS : St w w [] [] [] := St.start w
 refine walk_of (l := [(0, .slice so l.length ca), (1, .int .i64 ap), (2, .int .i64 size), (3, .bool bg), (4, .bool sg)]) Tryd.func3 rfl Tryd.ntmps3 rfl rfl ?_
 intro Q hret hnorm hP a hA
 refine wp_seq_k (fun K1 hK1 => ?_)
 refine wp_region_lit ?_
 refine seq_do hA rfl rfl rfl (does_assign rfl) fun a hA => ?_
 refine seq_end ?_
 refine hK1 _ _ ?_
 refine wp_seq_k (fun K2 hK2 => ?_)
 refine wp_region_lit ?_
 refine seq_do hA rfl rfl rfl (does_move rfl) fun a hA => ?_
 refine seq_do hA rfl rfl rfl (does_move rfl) fun a hA => ?_
 refine seq_do hA rfl rfl rfl (does_move rfl) fun a hA => ?_
 refine seq_do hA rfl rfl rfl (does_move rfl) fun a hA => ?_
 refine seq_do hA rfl rfl rfl (does_move rfl) fun a hA => ?_
 refine seq_call hA rfl rfl rfl (enters_func  rfl rfl (fun w => by kernel_rfl)) ((hz ▸ getP_any (hb.below hS.bel) hca hl hap0 hap1 hsize0 hsize1 bg sg)) ?_
 rintro _ w6 ⟨p3_1, p3_c1, p3_2, p3_c2, p3_3, p3_c3, p3_4, p3_c4, rfl, hn4, hb5⟩
 replace hS := hS.call hb5
 replace hS := hS.addR hn4.s1.rd
 replace hS := hS.addR hn4.s2.rd
 replace hS := hS.addR hn4.s3.rd
 replace hS := hS.addR hn4.s4.rd
 refine ⟨_, rfl, ?_⟩
 intro a hA
 refine seq_do hA rfl rfl rfl (does_move rfl) fun a hA => ?_
 refine seq_do (v := .agg #[.bool z.1.b1, .slice p3_1 z.1.t1.length p3_c1, .slice p3_2 z.1.q1.length p3_c2, .bool z.1.b2, .slice p3_3 z.1.t2.length p3_c3, .slice p3_4 z.1.q2.length p3_c4]) hA rfl rfl rfl (does_extract (vs := [.agg #[.bool z.1.b1, .slice p3_1 z.1.t1.length p3_c1, .slice p3_2 z.1.q1.length p3_c2, .bool z.1.b2, .slice p3_3 z.1.t2.length p3_c3, .slice p3_4 z.1.q2.length p3_c4], .int .i64 z.2]) rfl rfl) fun a hA => ?_
 refine seq_do (v := .int .i64 z.2) hA rfl rfl rfl (does_extract (vs := [.agg #[.bool z.1.b1, .slice p3_1 z.1.t1.length p3_c1, .slice p3_2 z.1.q1.length p3_c2, .bool z.1.b2, .slice p3_3 z.1.t2.length p3_c3, .slice p3_4 z.1.q2.length p3_c4], .int .i64 z.2]) rfl rfl) fun a hA => ?_
 refine seq_new (vs := [.bool false, .slice none 0 0, .slice none 0 0, .bool false, .slice none 0 0, .slice none 0 0]) (t := 27) hA hS rfl rfl rfl (fun g => .pointer (some ⟨g, 0, none⟩)) (does_alloc (z := .agg #[.bool false, .slice none 0 0, .slice none 0 0, .bool false, .slice none 0 0, .slice none 0 0]) (by kernel_rfl) rfl) rfl ?_
 intro g7 w8 hS a hA
 refine seq_store (us := [.bool z.1.b1, .slice p3_1 z.1.t1.length p3_c1, .slice p3_2 z.1.q1.length p3_c2, .bool z.1.b2, .slice p3_3 z.1.t2.length p3_c3, .slice p3_4 z.1.q2.length p3_c4]) hA hS rfl rfl (sets_store rfl rfl rfl (by kernel_rfl) hS 0 rfl rfl rfl) 0 rfl rfl rfl rfl ?_
 intro w9 hS
 refine seq_do hA rfl rfl rfl (does_assign rfl) fun a hA => ?_
 refine seq_end ?_
 refine hK2 _ _ ?_
 refine wp_seq_k (fun K10 hK10 => ?_)
 refine wp_region_lit ?_
 refine seq_do hA rfl rfl rfl (does_move rfl) fun a hA => ?_
 refine seq_do hA rfl rfl rfl (does_move rfl) fun a hA => ?_
 refine seq_do hA rfl rfl rfl (does_move rfl) fun a hA => ?_
 refine seq_do hA rfl rfl rfl (does_move rfl) fun a hA => ?_
 refine seq_do hA rfl rfl rfl (does_move rfl) fun a hA => ?_
 refine seq_call hA rfl rfl rfl (enters_func  rfl rfl (fun w => by kernel_rfl)) ((hz ▸ getR_any (hb.below hS.bel) hca hl hap0 hap1 hsize0 hsize1 bg sg)) ?_
 rintro _ w14 ⟨p11_1, p11_c1, p11_2, p11_c2, p11_3, p11_c3, p11_4, p11_c4, rfl, hn12, hb13⟩
 replace hS := hS.call hb13
 replace hS := hS.addR hn12.s1.rd
 replace hS := hS.addR hn12.s2.rd
 replace hS := hS.addR hn12.s3.rd
 replace hS := hS.addR hn12.s4.rd
 refine ⟨_, rfl, ?_⟩
 intro a hA
 refine seq_do hA rfl rfl rfl (does_move rfl) fun a hA => ?_
 refine seq_do (v := .agg #[.bool z.1.b1, .slice p11_1 z.1.t1.length p11_c1, .slice p11_2 z.1.q1.length p11_c2, .bool z.1.b2, .slice p11_3 z.1.t2.length p11_c3, .slice p11_4 z.1.q2.length p11_c4]) hA rfl rfl rfl (does_extract (vs := [.agg #[.bool z.1.b1, .slice p11_1 z.1.t1.length p11_c1, .slice p11_2 z.1.q1.length p11_c2, .bool z.1.b2, .slice p11_3 z.1.t2.length p11_c3, .slice p11_4 z.1.q2.length p11_c4], .int .i64 z.2]) rfl rfl) fun a hA => ?_
 refine seq_do (v := .int .i64 z.2) hA rfl rfl rfl (does_extract (vs := [.agg #[.bool z.1.b1, .slice p11_1 z.1.t1.length p11_c1, .slice p11_2 z.1.q1.length p11_c2, .bool z.1.b2, .slice p11_3 z.1.t2.length p11_c3, .slice p11_4 z.1.q2.length p11_c4], .int .i64 z.2]) rfl rfl) fun a hA => ?_
 refine seq_new (vs := [.bool false, .slice none 0 0, .slice none 0 0, .bool false, .slice none 0 0, .slice none 0 0]) (t := 27) hA hS rfl rfl rfl (fun g => .pointer (some ⟨g, 0, none⟩)) (does_alloc (z := .agg #[.bool false, .slice none 0 0, .slice none 0 0, .bool false, .slice none 0 0, .slice none 0 0]) (by kernel_rfl) rfl) rfl ?_
 intro g15 w16 hS a hA
 refine seq_store (us := [.bool z.1.b1, .slice p11_1 z.1.t1.length p11_c1, .slice p11_2 z.1.q1.length p11_c2, .bool z.1.b2, .slice p11_3 z.1.t2.length p11_c3, .slice p11_4 z.1.q2.length p11_c4]) hA hS rfl rfl (sets_store rfl rfl rfl (by kernel_rfl) hS 0 rfl rfl rfl) 0 rfl rfl rfl rfl ?_
 intro w17 hS
 refine seq_do hA rfl rfl rfl (does_assign rfl) fun a hA => ?_
 refine seq_end ?_
 refine hK10 _ _ ?_
 refine wp_seq_k (fun K18 hK18 => ?_)
 refine wp_region_lit ?_
 refine seq_call hA rfl rfl rfl (enters_func  rfl rfl (fun w => by kernel_rfl)) (G.awake5_any) ?_
 rintro _ w20 ⟨rfl, hb19⟩
 replace hS := hS.call hb19
 refine ⟨_, rfl, ?_⟩
 intro a hA
 refine seq_do hA rfl rfl rfl (does_move rfl) fun a hA => ?_
 refine seq_do hA rfl rfl rfl (does_loadS hS GvD_isS_27 rfl 1 rfl (cs := [.bool z.1.b1, .slice p3_1 z.1.t1.length p3_c1, .slice p3_2 z.1.q1.length p3_c2, .bool z.1.b2, .slice p3_3 z.1.t2.length p3_c3, .slice p3_4 z.1.q2.length p3_c4]) rfl rfl) fun a hA => ?_
 refine seq_do hA rfl rfl rfl (does_loadS hS GvD_isS_27 rfl 0 rfl (cs := [.bool z.1.b1, .slice p11_1 z.1.t1.length p11_c1, .slice p11_2 z.1.q1.length p11_c2, .bool z.1.b2, .slice p11_3 z.1.t2.length p11_c3, .slice p11_4 z.1.q2.length p11_c4]) rfl rfl) fun a hA => ?_
 refine seq_call hA rfl rfl rfl (enters_func  rfl rfl (fun w => by kernel_rfl)) (alike_any (show Nm _ _ p3_1 p3_c1 p3_2 p3_c2 p3_3 p3_c3 p3_4 p3_c4 from ⟨⟨(hS.rd 7 rfl), hn4.s1.nil, hn4.s1.cap⟩, ⟨(hS.rd 6 rfl), hn4.s2.nil, hn4.s2.cap⟩, ⟨(hS.rd 5 rfl), hn4.s3.nil, hn4.s3.cap⟩, ⟨(hS.rd 4 rfl), hn4.s4.nil, hn4.s4.cap⟩⟩) lz (show Nm _ _ p11_1 p11_c1 p11_2 p11_c2 p11_3 p11_c3 p11_4 p11_c4 from ⟨⟨(hS.rd 3 rfl), hn12.s1.nil, hn12.s1.cap⟩, ⟨(hS.rd 2 rfl), hn12.s2.nil, hn12.s2.cap⟩, ⟨(hS.rd 1 rfl), hn12.s3.nil, hn12.s3.cap⟩, ⟨(hS.rd 0 rfl), hn12.s4.nil, hn12.s4.cap⟩⟩)) ?_
 rintro _ w22 ⟨rfl, hb21⟩
 replace hS := hS.call hb21
 refine ⟨_, rfl, ?_⟩
 intro a hA
 refine seq_do (v := .bool true) hA rfl rfl rfl (does_pick rfl rfl rfl rfl) fun a hA => ?_
 refine seq_do hA rfl rfl rfl (does_move rfl) fun a hA => ?_
 refine seq_do hA rfl rfl rfl (does_move rfl) fun a hA => ?_
 refine seq_do hA rfl rfl rfl (does_move rfl) fun a hA => ?_
 refine seq_do (v := .bool true) hA rfl rfl rfl (does_bin rfl rfl (fun w => (bin_eql w).trans (by rw [show ((z.2 == z.2)) = true from (beq_self_eq_true _)]))) fun a hA => ?_
 refine seq_do (v := .bool true) hA rfl rfl rfl (does_pick rfl rfl rfl rfl) fun a hA => ?_
 refine seq_do hA rfl rfl rfl (does_assign rfl) fun a hA => ?_
 refine seq_end ?_
 refine hK18 _ _ ?_
 refine wp_ret ?_
 refine hret _ _ ?_
 refine ends (v := .bool true) hA rfl (.cons (res_tmp rfl) .nil) rfl ?_
 exact ⟨rfl, hS.bel⟩
theorem gets_any {w : World} {so : Option Addr} {ca : Nat} {l : List UInt8} (hb : G.Rb w so l) (hca : l.length ≤ ca) (hl : l.length ≤ 140737488351232) {ap size : Int} (hap0 : -9223372036854775808 ≤ ap) (hap1 : ap ≤ 9223372036854775807) (hsize0 : -9223372036854775808 ≤ size) (hsize1 : size ≤ 9223372036854775807) (bg sg : Bool) : Calls Tryd.prog 3 #[.slice so l.length ca, .int .i64 ap, .int .i64 size, .bool bg, .bool sg] w fun e w' => e = .returned (.bool true) ∧ Below w.heap.size w w' := getsW_any hb hca hl hap0 hap1 hsize0 hsize1 bg sg rfl (getQ_len l ap size bg sg)
end Go.Proofs.YtbajcflbimmnhaaDoor
namespace Go.Proofs.YtbajcflbimmnhaaDoor.G
open Go.ChangeShapes Go.WideShapes Go.ChangeAt Go.RowKit Go.Joins Go.Deep
set_option linter.unusedVariables false
set_option linter.unusedSimpArgs false
set_option maxRecDepth 100000

section
variable {H : Type} {enc : TypeId × Value → H} {W : World}
end
end Go.Proofs.YtbajcflbimmnhaaDoor.G
namespace Go.Proofs.YtbajcflbimmnhaaDoor.G
open Go.ChangeShapes Go.WideShapes Go.ChangeAt Go.RowKit Go.Joins Go.Deep
set_option linter.unusedVariables false
set_option linter.unusedSimpArgs false
set_option maxRecDepth 100000

theorem bytes_row {w : World} {x : Addr} {len cap : Nat} {zs : List Int} (hl : len ≤ cap) (hz : zs.length = cap)
    (hc : ∀ i, i < zs.length → w.cell? (x.add i) = some (.int .u8 (zs.getD i 0))) (hw : ∀ n ∈ zs, (Lit.int .u8 n).wf = true) :
    ∃ l : List UInt8, l.length = len ∧ Rb w (some x) l := by
  have hbd : ∀ n ∈ zs, 0 ≤ n ∧ n < 256 := by
    intro n hn
    have := bounds_u8 (hw n hn)
    omega
  refine ⟨(zs.take len).map b8, by rw [List.length_map, List.length_take]; omega, ⟨fun hne => ?_⟩⟩
  have hlen : ((zs.take len).map b8).length = len := by rw [List.length_map, List.length_take]; omega
  have h0 : 0 < len := by
    apply Classical.byContradiction
    intro h
    have : len = 0 := by omega
    subst this
    simp at hne
  obtain ⟨b, off, spot⟩ := x
  have hspot : spot = none := by
    have := hc 0 (by omega)
    simp only [World.cell?, Addr.add] at this
    split at this
    · cases spot with
      | none => rfl
      | some s => simp at this
    · cases this
  subst hspot
  have hcj : ∀ j, j < len → w.cell? ⟨b, off + j, none⟩ = some (.int .u8 (((((zs.take len).map b8).getD j 0).toNat : Nat) : Int)) := by
    intro j hj
    have h1 := hc j (by omega)
    rw [Addr.add_lit] at h1
    rw [h1]
    have hjz : j < zs.length := by omega
    have h2 := hbd zs[j] (List.getElem_mem hjz)
    have e1 : zs.getD j 0 = zs[j] := by simp [hjz]
    have e2 : ((zs.take len).map b8).getD j 0 = b8 zs[j] := by simp [List.getD_eq_getElem?_getD, hj, hjz]
    rw [e1, e2, b8_val h2.1 h2.2]
  refine ⟨b, off, rfl, ?_, fun j hj => hcj j (by omega)⟩
  have := hcj 0 h0
  apply Classical.byContradiction
  intro h
  simp [World.cell?, Array.getElem?_eq_none (Nat.le_of_not_lt h)] at this
section
variable {H : Type} {enc : TypeId × Value → H} {W : World}
end
theorem Rb.take {w : World} {so : Option Addr} {l : List UInt8} (h : Rb w so l) (n : Nat) : Rb w so (l.take n) := by
  refine ⟨fun hne => ?_⟩
  obtain ⟨b, off, h1, h2, h3⟩ := h.pos (fun k => hne (by rw [k]; simp))
  refine ⟨b, off, h1, h2, fun j hj => ?_⟩
  rw [List.length_take] at hj
  rw [h3 j (by omega), List.getD_eq_getElem?_getD, List.getD_eq_getElem?_getD, List.getElem?_take_of_lt (by omega)]
section
variable {P : Program} {w : World} {l : List (Nat × Value)} {dst : Option Tmp} {ty : TypeId} {pos : String} {after : Array Edge} {guard : Option (Nat × Bool)}
end
end Go.Proofs.YtbajcflbimmnhaaDoor.G
