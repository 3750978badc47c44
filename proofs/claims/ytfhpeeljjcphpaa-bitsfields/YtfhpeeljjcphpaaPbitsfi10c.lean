/- Walks of fields of bits. Walks of the law on fields. Numbers that come in as arguments. -/
import Derived.Test.YtfhpeeljjcphpaaPbitsfi10b
import Derived.Test.YtfhpeeljjcphpaaPbitsfi10a
import Derived.Test.YtfhpeeljjcphpaaArgs
import Derived.WalkKit
import Derived.ProofKit
import Derived.OpenShut
import Derived.ChangeOld
import Derived.Lib.SmallJoins
import Derived.Deep.Strs
namespace Go.Proofs.Ytfhpeeljjcphpaa
open Go.RowKit
set_option linter.unusedVariables false
set_option linter.unusedSimpArgs false
set_option maxRecDepth 100000
theorem BiP_is1_22 : Is1 Try.prog 22 := ⟨⟨_, Try.underlying22, rfl⟩, by kernel_rfl⟩
theorem BiP_is1_41 : Is1 Try.prog 41 := ⟨⟨_, Try.underlying41, rfl⟩, by kernel_rfl⟩
theorem BiP_fld_24_1 : FieldAt Try.prog 24 1 1 := ⟨_, _, Try.underlying24, rfl, rfl, by kernel_rfl⟩
theorem BiP_fld_26_0 : FieldAt Try.prog 26 0 0 := ⟨_, _, Try.underlying26, rfl, rfl, by kernel_rfl⟩
theorem BiP_isS_26 : IsS Try.prog 26 6 := ⟨⟨_, Try.underlying26⟩, by kernel_rfl⟩
theorem BiP_isS_49 : IsS Try.prog 49 2 := ⟨⟨_, Try.underlying49⟩, by kernel_rfl⟩
theorem bitG_any {w : World} {ao : Option Addr} {l : List Nat} (ca k : Nat) (ha : Rd w ao l) (hk : k ≤ 10000000) : Calls Try.prog 44 #[.slice ao l.length ca, .int .i64 ((k : Nat) : Int)] w fun e w' => e = .returned (.int .u32 ((l.getD (k / 32) 0 / 2 ^ (k % 32) % 2 : Nat) : Int)) ∧ Below w.heap.size w w' := by
 have hS : St w w [] [(ao, l)] [] := (St.start w).addR ha
 refine walk_of (l := [(0, .slice ao l.length ca), (1, .int .i64 (((k : Nat) : Int)))]) Try.func44 rfl Try.ntmps44 rfl rfl ?_
 intro Q hret hnorm hP a hA
 refine wp_seq_k (fun K1 hK1 => ?_)
 refine wp_region_lit ?_
 refine seq_do hA rfl rfl rfl (d_assign rfl) ?_
 intro a hA
 refine seq_end ?_
 refine hK1 _ _ ?_
 refine wp_seq_k (fun K2 hK2 => ?_)
 refine wp_region_lit ?_
 refine seq_do hA rfl rfl rfl (d_move rfl) ?_
 intro a hA
 refine seq_do hA rfl rfl rfl (d_move rfl) ?_
 intro a hA
 refine seq_do (v := .int .i64 (((k / 32 : Nat) : Int))) hA rfl rfl rfl (d_bin rfl rfl (bin_quo (by omega))) ?_
 intro a hA
 refine seq_call hA rfl rfl rfl (enters_func  rfl rfl (fun w => by kernel_rfl)) (rword_any _ (k / 32) (hS.rd 0 rfl)) ?_
 rintro _ w4 ⟨rfl, hb3⟩
 replace hb3 := below_eq hb3
 replace hS := hS.call hb3
 refine ⟨_, rfl, ?_⟩
 intro a hA
 refine seq_do hA rfl rfl rfl (d_move rfl) ?_
 intro a hA
 refine seq_do (v := .int .i64 (((k % 32 : Nat) : Int))) hA rfl rfl rfl (d_bin rfl rfl (bin_rem (by omega))) ?_
 intro a hA
 refine seq_do (v := .int .u64 (((l.getD (k / 32) 0 / 2 ^ (k % 32) : Nat) : Int))) hA rfl rfl rfl (d_bin rfl rfl (bin_shr64 (Dig.getD ha.dig _) (by omega))) ?_
 intro a hA
 refine seq_do (v := .int .u32 (((l.getD (k / 32) 0 / 2 ^ (k % 32) : Nat) : Int))) hA rfl rfl rfl (d_convert rfl (conv_64 Try.underlying73 Try.underlying41 (Nat.lt_of_le_of_lt (Nat.div_le_self _ _) (Dig.getD ha.dig _)))) ?_
 intro a hA
 refine seq_do (v := .int .u32 (((l.getD (k / 32) 0 / 2 ^ (k % 32) % 2 : Nat) : Int))) hA rfl rfl rfl (d_bin rfl rfl (bin_and1 (Nat.lt_of_le_of_lt (Nat.div_le_self _ _) (Dig.getD ha.dig _)))) ?_
 intro a hA
 refine seq_do hA rfl rfl rfl (d_assign rfl) ?_
 intro a hA
 refine seq_end ?_
 refine hK2 _ _ ?_
 refine wp_ret ?_
 refine hret _ _ ?_
 refine ends (v := .int .u32 (((l.getD (k / 32) 0 / 2 ^ (k % 32) % 2 : Nat) : Int))) hA rfl (.cons (res_tmp rfl) .nil) rfl ?_
 exact ⟨rfl, hS.bel⟩
theorem mask_lt {k : Nat} (hk : k < 32) : 2 ^ k - 1 < 4294967296 := by
  have h3 : 2 ^ k ≤ 2 ^ 31 := Nat.pow_le_pow_right (by decide) (by omega)
  have h4 : (2 : Nat) ^ 31 = 2147483648 := rfl
  omega
theorem low_mask {b : Bool} {y c n : Nat} (hn : (c + 32 - 1) / 32 = n + 1) (hr : 0 < c % 32) : val ((rowL b y (n + 1)).set n ((rowL b y (n + 1)).getD n 0 &&& (2 ^ (c % 32) - 1))) = fld b y 0 c := by
  rw [mask_val (rowL_dig _ _ _) (rowL_len _ _ _), pw_two, ← Nat.pow_add, show 32 * n + c % 32 = c from by omega]
  exact rowL_mod (by omega)
theorem low_all {b : Bool} {y c : Nat} (hr : ¬ 0 < c % 32) : val (rowL b y ((c + 32 - 1) / 32)) = fld b y 0 c := by
  have h1 := rowL_mod (b := b) (y := y) (n := (c + 32 - 1) / 32) (c := c) (by omega)
  have h2 := val_lt (rowL_dig b y ((c + 32 - 1) / 32))
  rw [rowL_len, pw_two, show 32 * ((c + 32 - 1) / 32) = c from by omega] at h2
  rw [← h1, Nat.mod_eq_of_lt h2]
theorem lowest_row_any {w : World} {b : Bool} {ro : Option Addr} {rc y c : Nat} (hr : Rd w ro (words y)) (hy : (words y).length ≤ 600) (hc : c ≤ 16384) : Calls Try.prog 47 #[.agg #[.bool b, .slice ro (words y).length rc], .int .i64 ((c : Nat) : Int)] w (Row1 w (words (fld b y 0 c))) := by
 have hS : St w w [] [] [] := St.start w
 refine walk_of (l := [(0, .agg #[.bool b, .slice ro ((words y).length) rc]), (1, .int .i64 (((c : Nat) : Int)))]) Try.func47 rfl Try.ntmps47 rfl rfl ?_
 intro Q hret hnorm hP a hA
 refine wp_seq_k (fun K1 hK1 => ?_)
 refine wp_region_lit ?_
 refine seq_new hA hS rfl rfl rfl (fun g => .pointer (some ⟨g, 0, none⟩)) (d_box rfl rfl) rfl ?_
 intro g2 w3 hS a hA
 refine seq_do hA rfl rfl rfl (d_assign rfl) ?_
 intro a hA
 refine seq_end ?_
 refine hK1 _ _ ?_
 refine wp_seq_k (fun K4 hK4 => ?_)
 refine wp_region_lit ?_
 refine seq_do hA rfl rfl rfl (d_move rfl) ?_
 intro a hA
 refine seq_do (v := .int .i64 (((c + 32 : Nat) : Int))) hA rfl rfl rfl (d_bin rfl rfl (fun w => (bin_add (i64In (by omega) (by omega)) w).trans (by rw [show (((c : Nat) : Int) + 32 : Int) = ((c + 32 : Nat) : Int) from by omega]))) ?_
 intro a hA
 refine seq_do (v := .int .i64 (((c + 32 - 1 : Nat) : Int))) hA rfl rfl rfl (d_bin rfl rfl (fun w => (bin_sub (i64In (by omega) (by omega)) w).trans (by rw [show (((c + 32 : Nat) : Int) - 1 : Int) = ((c + 32 - 1 : Nat) : Int) from by omega]))) ?_
 intro a hA
 refine seq_do (v := .int .i64 ((((c + 32 - 1) / 32 : Nat) : Int))) hA rfl rfl rfl (d_bin rfl rfl (bin_quo (by omega))) ?_
 intro a hA
 refine seq_make (m := (c + 32 - 1) / 32) hA hS rfl rfl rfl (d_make Try.underlying22 (by kernel_rfl) rfl rfl (by omega)) (by omega) ?_
 intro g5 w6 hS a hA
 refine seq_do hA rfl rfl rfl (d_assign rfl) ?_
 intro a hA
 refine seq_end ?_
 refine hK4 _ _ ?_
 refine wp_seq_k (fun K7 hK7 => ?_)
 refine wp_seq_k (fun K8 hK8 => ?_)
 refine wp_region_lit ?_
 refine seq_do hA rfl rfl rfl (d_move rfl) ?_
 intro a hA
 refine seq_do (v := .int .i64 ((((c + 32 - 1) / 32 : Nat) : Int))) hA rfl rfl rfl (d_len Try.underlying22 rfl) ?_
 intro a hA
 refine seq_do hA rfl rfl rfl (d_move rfl) ?_
 intro a hA
 refine seq_end ?_
 refine hK8 _ _ ?_
 refine wp_block ?_
 refine wp_loop_n (fun m a w1 => ∃ (i : Nat) (l : List Nat), m = (c + 32 - 1) / 32 - i ∧ (i ≤ (c + 32 - 1) / 32 ∧ l.length = (c + 32 - 1) / 32 ∧ ∀ j, j < i → l.getD j 0 = rwd b y j) ∧ Sl a 42 [(0, .agg #[.bool b, .slice ro ((words y).length) rc]), (1, .int .i64 (((c : Nat) : Int))), (2, .pointer (some ⟨g2, 0, none⟩)), (4, .slice none 0 0), (5, .slice (some ⟨g5, 0, none⟩) ((c + 32 - 1) / 32) ((c + 32 - 1) / 32)), (8, .int .i64 (((c : Nat) : Int))), (9, .int .i64 (((c + 32 : Nat) : Int))), (10, .int .i64 (((c + 32 - 1 : Nat) : Int))), (11, .int .i64 ((((c + 32 - 1) / 32 : Nat) : Int))), (12, .slice (some ⟨g5, 0, none⟩) ((c + 32 - 1) / 32) ((c + 32 - 1) / 32)), (13, .slice (some ⟨g5, 0, none⟩) ((c + 32 - 1) / 32) ((c + 32 - 1) / 32)), (14, .int .i64 ((((c + 32 - 1) / 32 : Nat) : Int))), (15, .int .i64 (((i : Nat) : Int)))] ∧ St w w1 [(g2, [.bool b, .slice ro ((words y).length) rc])] [] [(some ⟨g5, 0, none⟩, (c + 32 - 1) / 32, l)]) _ ⟨0, List.replicate ((c + 32 - 1) / 32) 0, rfl, ⟨Nat.zero_le _, by simp, fun j hj => by omega⟩, hA.keep _ ⟨rfl, rfl, rfl, rfl, rfl, rfl, rfl, rfl, rfl, rfl, rfl, rfl, rfl, trivial⟩, hS⟩ ?_
 clear hS hA
 rintro m a w9 ⟨i, l, rfl, hinv11, hA, hS⟩ K10 hK10
 obtain ⟨hle9, hinv9, hinv8⟩ := hinv11
 have hdig9 := (hS.row 0 rfl).dig
 refine wp_seq_k (fun K12 hK12 => ?_)
 refine wp_region_lit ?_
 rcases Bool.eq_false_or_eq_true (decide (((i : Nat) : Int) < (((c + 32 - 1) / 32 : Nat) : Int))) with hb13 | hb13
 · have hb13' := of_decide_eq_true hb13
   refine seq_do (v := .bool true) hA rfl rfl rfl (d_bin rfl rfl (fun w => (bin_lss w).trans (by rw [hb13]))) ?_
   intro a hA
   refine seq_end ?_
   refine hK12 _ _ ?_
   refine wp_seq_k (fun K14 hK14 => ?_)
   refine wp_cond_true (hA.ev rfl) ?_
   refine wp_skip ?_
   refine hK14 _ _ ?_
   refine wp_seq_k (fun K15 hK15 => ?_)
   refine wp_block ?_
   refine wp_seq_k (fun K16 hK16 => ?_)
   refine wp_region_lit ?_
   refine seq_do hA rfl rfl rfl (d_move rfl) ?_
   intro a hA
   refine seq_do hA rfl rfl rfl (d_assign rfl) ?_
   intro a hA
   refine seq_end ?_
   refine hK16 _ _ ?_
   refine wp_region_lit ?_
   refine seq_do hA rfl rfl rfl (d_move rfl) ?_
   intro a hA
   refine seq_do hA rfl rfl rfl (d_move rfl) ?_
   intro a hA
   refine seq_do hA rfl rfl rfl (d_loadS hS BiP_isS_49 rfl 0 rfl (cs := [.bool b, .slice ro ((words y).length) rc]) rfl rfl) ?_
   intro a hA
   refine seq_do hA rfl rfl rfl (d_move rfl) ?_
   intro a hA
   refine seq_call hA rfl rfl rfl (enters_func  rfl rfl (fun w => by kernel_rfl)) (rwordAt_any (hr.below hS.bel) (by omega)) ?_
   rintro _ w18 ⟨rfl, hb17⟩
   have hS0 := hS
   replace hS := hS.call hb17
   refine ⟨_, rfl, ?_⟩
   intro a hA
   have hi22 : i < l.length := by first | omega | (simp only [List.length_set]; omega)
   refine seq_do (v := .pointer (some ⟨g5, 0 + i, none⟩)) hA rfl rfl rfl (d_indexRow (k := i) Try.underlying22 (by kernel_rfl) rfl rfl (by omega) rfl (by omega)) ?_
   intro a hA
   refine seq_row (us' := l.set i (rwd b y i)) hA hS rfl rfl (sets_row (d := rwd b y i) (by kernel_rfl) rfl rfl hS 0 rfl hi22) 0 rfl (rwd_lt _ _ _) rfl ?_
   intro w23 hS
   refine seq_end ?_
   refine hK15 _ _ ?_
   refine wp_region_lit ?_
   refine seq_do (v := .int .i64 (((i + 1 : Nat) : Int))) hA rfl rfl rfl (d_bin rfl rfl (fun w => (bin_add (i64In (by omega) (by omega)) w).trans (by rw [show (((i : Nat) : Int) + 1 : Int) = ((i + 1 : Nat) : Int) from by omega]))) ?_
   intro a hA
   refine seq_do hA rfl rfl rfl (d_move rfl) ?_
   intro a hA
   refine seq_end ?_
   refine hK10 _ _ _ (by omega) ⟨i + 1, l.set i (rwd b y i), rfl, ⟨by omega, by rw [List.length_set]; exact hinv9, fun j hj => by rw [getD_set _ _ _ _ (by omega)]; split; rename_i h; subst h; rfl; exact hinv8 j (by omega)⟩, hA.keep _ ⟨rfl, rfl, rfl, rfl, rfl, rfl, rfl, rfl, rfl, rfl, rfl, rfl, rfl, trivial⟩, hS⟩
 · have hb13' := of_decide_eq_false hb13
   refine seq_do (v := .bool false) hA rfl rfl rfl (d_bin rfl rfl (fun w => (bin_lss w).trans (by rw [hb13]))) ?_
   intro a hA
   refine seq_end ?_
   refine hK12 _ _ ?_
   refine wp_seq_k (fun K24 hK24 => ?_)
   refine wp_cond_false (hA.ev rfl) ?_
   refine wp_exit ?_
   refine hK7 _ _ ?_
   refine wp_seq_k (fun K25 hK25 => ?_)
   refine wp_seq_k (fun K26 hK26 => ?_)
   refine wp_region_lit ?_
   refine seq_do hA rfl rfl rfl (d_move rfl) ?_
   intro a hA
   refine seq_do (v := .int .i64 (((c % 32 : Nat) : Int))) hA rfl rfl rfl (d_bin rfl rfl (bin_rem (by omega))) ?_
   intro a hA
   refine seq_do hA rfl rfl rfl (d_assign rfl) ?_
   intro a hA
   refine seq_end ?_
   refine hK26 _ _ ?_
   refine wp_seq_k (fun K27 hK27 => ?_)
   refine wp_region_lit ?_
   refine seq_do hA rfl rfl rfl (d_move rfl) ?_
   intro a hA
   rcases Bool.eq_false_or_eq_true (decide (0 < ((c % 32 : Nat) : Int))) with hb28 | hb28
   · have hb28' := of_decide_eq_true hb28
     refine seq_do (v := .bool true) hA rfl rfl rfl (d_bin rfl rfl (fun w => (bin_gtr w).trans (by rw [hb28]))) ?_
     intro a hA
     refine seq_end ?_
     refine hK27 _ _ ?_
     refine wp_cond_true (hA.ev rfl) ?_
     refine wp_draw (S := fun w1 => St w w1 [(g2, [.bool b, .slice ro ((words y).length) rc])] [] []) (by kernel_rfl) ?_
     replace hS := hS.drew
     refine any_tk hA 0 rfl rfl rfl rfl hP (hS.partD (.refl _) 0 rfl (.cons _ .slnil)) (fun w1 hS => d_move rfl) ?_
     intro a hA
     refine any_tk hA 1 rfl rfl rfl rfl hP (hS.partD (.refl _) 0 rfl (.cons _ .slnil)) (fun w1 hS => d_move rfl) ?_
     intro a hA
     refine any_tk (v := .int .i64 ((((c + 32 - 1) / 32 : Nat) : Int))) hA 2 rfl rfl rfl rfl hP (hS.partD (.refl _) 0 rfl (.cons _ .slnil)) (fun w1 hS => d_len Try.underlying22 rfl) ?_
     intro a hA
     refine any_tk (v := .int .i64 ((((c + 32 - 1) / 32 - 1 : Nat) : Int))) hA 3 rfl rfl rfl rfl hP (hS.partD (.refl _) 0 rfl (.cons _ .slnil)) (fun w1 hS => d_bin rfl rfl (fun w => (bin_sub (i64In (by omega) (by omega)) w).trans (by rw [show ((((c + 32 - 1) / 32 : Nat) : Int) - 1 : Int) = (((c + 32 - 1) / 32 - 1 : Nat) : Int) from by omega]))) ?_
     intro a hA
     have hi32 : (c + 32 - 1) / 32 - 1 < l.length := by first | omega | (simp only [List.length_set]; omega)
     refine any_tk (v := .pointer (some ⟨g5, 0 + ((c + 32 - 1) / 32 - 1), none⟩)) hA 4 rfl rfl rfl rfl hP (hS.partD (.refl _) 0 rfl (.cons _ .slnil)) (fun w1 hS => d_indexRow (k := (c + 32 - 1) / 32 - 1) Try.underlying22 (by kernel_rfl) rfl rfl (by omega) rfl (by omega)) ?_
     intro a hA
     refine any_tk hA 6 rfl rfl rfl rfl hP (hS.partD (.refl _) 0 rfl (.cons _ .slnil)) (fun w1 hS => d_move rfl) ?_
     intro a hA
     refine any_tk (v := .int .u32 (((1 * 2 ^ (c % 32) : Nat) : Int))) hA 7 rfl rfl rfl rfl hP (hS.partD (.refl _) 0 rfl (.cons _ .slnil)) (fun w1 hS => d_bin rfl rfl (bin_shl (x := 1) (by decide) (by omega))) ?_
     intro a hA
     refine any_tk (v := .int .u32 (((2 ^ (c % 32) - 1 : Nat) : Int))) hA 8 rfl rfl rfl rfl hP (hS.partD (.refl _) 0 rfl (.cons _ .slnil)) (fun w1 hS => d_bin rfl rfl (bin_subU (by omega))) ?_
     intro a hA
     refine any_one (by kernel_rfl) (op_do (v := .int .u32 (((l.getD ((c + 32 - 1) / 32 - 1) 0 : Nat) : Int))) hA 5 rfl rfl rfl rfl (d_loadRow (hS.row 0 rfl).rd rfl hi32 BiP_is1_41 rfl) (hS.partD (.refl _) 0 rfl (.cons _ .slnil)) ?_)
     intro a hA
     refine any_tk (v := .int .u32 (((l.getD ((c + 32 - 1) / 32 - 1) 0 &&& (2 ^ (c % 32) - 1) : Nat) : Int))) hA 9 rfl rfl rfl rfl hP (hS.partD (.refl _) 0 rfl (.cons _ .slnil)) (fun w1 hS => d_bin rfl rfl (bin_and (Dig.getD hdig9 _) (mask_lt (by omega)))) ?_
     intro a hA
     have hi36 : (c + 32 - 1) / 32 - 1 < l.length := by first | omega | (simp only [List.length_set]; omega)
     refine any_tk (v := .pointer (some ⟨g5, 0 + ((c + 32 - 1) / 32 - 1), none⟩)) hA 10 rfl rfl rfl rfl hP (hS.partD (.refl _) 0 rfl (.cons _ .slnil)) (fun w1 hS => d_indexRow (k := (c + 32 - 1) / 32 - 1) Try.underlying22 (by kernel_rfl) rfl rfl (by omega) rfl (by omega)) ?_
     intro a hA
     refine any_one (by kernel_rfl) (op_row (us' := l.set ((c + 32 - 1) / 32 - 1) (l.getD ((c + 32 - 1) / 32 - 1) 0 &&& (2 ^ (c % 32) - 1))) hA hS 11 rfl rfl rfl (sets_row (d := l.getD ((c + 32 - 1) / 32 - 1) 0 &&& (2 ^ (c % 32) - 1)) (by kernel_rfl) rfl rfl hS 0 rfl hi36) 0 rfl (Nat.lt_of_le_of_lt Nat.and_le_left (Dig.getD (hS.row 0 rfl).dig _)) rfl ?_)
     intro w37 hS
     refine ⟨(hS.partD (.refl _) 0 rfl (.cons _ .slnil)), ?_⟩
     refine any_end (by kernel_rfl) ?_
     refine hK25 _ _ ?_
     refine wp_seq_k (fun K38 hK38 => ?_)
     refine wp_region_lit ?_
     refine seq_do hA rfl rfl rfl (d_move rfl) ?_
     intro a hA
     refine seq_call hA rfl rfl rfl (enters_func  rfl rfl (fun w => by kernel_rfl)) (btrimN_any (hS.row 0 rfl) (by first | exact hinv9 | (rw [List.length_set]; exact hinv9)) (by omega)) ?_
     rintro _ w41 ⟨rfl, ho39, hw40⟩
     have hw9 := below_eq hw40
     have ho9 := ho39.below hw9
     have hS0 := hS
     replace hS := hS.call hw9
     replace hS : St w w41 [(g2, [.bool b, .slice ro ((words y).length) rc])] [] [(some ⟨g5, 0, none⟩, (c + 32 - 1) / 32, words (val (l.set ((c + 32 - 1) / 32 - 1) (l.getD ((c + 32 - 1) / 32 - 1) 0 &&& (2 ^ (c % 32) - 1)))))] := hS.retake 0 rfl ho9
     refine ⟨_, rfl, ?_⟩
     intro a hA
     refine seq_do hA rfl rfl rfl (d_assign rfl) ?_
     intro a hA
     refine seq_end ?_
     refine hK38 _ _ ?_
     refine wp_ret ?_
     refine hret _ _ ?_
     refine ends (v := .slice (some ⟨g5, 0, none⟩) ((words (val (l.set ((c + 32 - 1) / 32 - 1) (l.getD ((c + 32 - 1) / 32 - 1) 0 &&& (2 ^ (c % 32) - 1))))).length) ((c + 32 - 1) / 32)) hA rfl (.cons (res_tmp rfl) .nil) rfl ?_
     have hi9 : i = (c + 32 - 1) / 32 := by omega
     subst hi9
     have el : l = rowL b y ((c + 32 - 1) / 32) := list_of_getD (by rw [rowL_len]; exact hinv9) (fun j hj => by rw [rowL_get (by omega)]; exact hinv8 j (by omega))
     subst el
     obtain ⟨n9, hn9⟩ : ∃ n9, (c + 32 - 1) / 32 = n9 + 1 := ⟨(c + 32 - 1) / 32 - 1, by omega⟩
     have ev := low_mask (b := b) (y := y) hn9 (by omega)
     have e9 : (c + 32 - 1) / 32 - 1 = n9 := by omega
     rw [← hn9, ← e9] at ev
     rw [← ev]
     exact ⟨_, _, rfl, hS.row 0 rfl, hS.bel⟩
   · have hb28' := of_decide_eq_false hb28
     refine seq_do (v := .bool false) hA rfl rfl rfl (d_bin rfl rfl (fun w => (bin_gtr w).trans (by rw [hb28]))) ?_
     intro a hA
     refine seq_end ?_
     refine hK27 _ _ ?_
     refine wp_cond_false (hA.ev rfl) ?_
     refine wp_skip ?_
     refine hK25 _ _ ?_
     refine wp_seq_k (fun K42 hK42 => ?_)
     refine wp_region_lit ?_
     refine seq_do hA rfl rfl rfl (d_move rfl) ?_
     intro a hA
     refine seq_call hA rfl rfl rfl (enters_func  rfl rfl (fun w => by kernel_rfl)) (btrimN_any (hS.row 0 rfl) (by first | exact hinv9 | (rw [List.length_set]; exact hinv9)) (by omega)) ?_
     rintro _ w45 ⟨rfl, ho43, hw44⟩
     have hw9 := below_eq hw44
     have ho9 := ho43.below hw9
     have hS0 := hS
     replace hS := hS.call hw9
     replace hS : St w w45 [(g2, [.bool b, .slice ro ((words y).length) rc])] [] [(some ⟨g5, 0, none⟩, (c + 32 - 1) / 32, words (val (l)))] := hS.retake 0 rfl ho9
     refine ⟨_, rfl, ?_⟩
     intro a hA
     refine seq_do hA rfl rfl rfl (d_assign rfl) ?_
     intro a hA
     refine seq_end ?_
     refine hK42 _ _ ?_
     refine wp_ret ?_
     refine hret _ _ ?_
     refine ends (v := .slice (some ⟨g5, 0, none⟩) ((words (val (l))).length) ((c + 32 - 1) / 32)) hA rfl (.cons (res_tmp rfl) .nil) rfl ?_
     have hi9 : i = (c + 32 - 1) / 32 := by omega
     subst hi9
     have el : l = rowL b y ((c + 32 - 1) / 32) := list_of_getD (by rw [rowL_len]; exact hinv9) (fun j hj => by rw [rowL_get (by omega)]; exact hinv8 j (by omega))
     subst el
     rw [← low_all (b := b) (y := y) (c := c) (by omega)]
     exact ⟨_, _, rfl, hS.row 0 rfl, hS.bel⟩
theorem fieldPE_any {w : World} {q : Q6} {a1 a2 a3 a4 : Option Addr} {ac1 ac2 ac3 ac4 : Nat} (ha : Nm w q a1 ac1 a2 ac2 a3 ac3 a4 ac4) (hl : LenQ q) {s e : Int} (hw : (want1 q != 0) = true) : Calls Try.prog 20 #[numV q a1 ac1 a2 ac2 a3 ac3 a4 ac4, .int .i64 s, .int .i64 e] w (AnsN w (fieldQ q s e)) := by
 have hS : St w w [] [(a4, q.q2), (a3, q.t2), (a2, q.q1), (a1, q.t1)] [] := ((((St.start w).addR ha.s1.rd).addR ha.s2.rd).addR ha.s3.rd).addR ha.s4.rd
 refine walk_of (l := [(0, .agg #[.bool q.b1, .slice a1 q.t1.length ac1, .slice a2 q.q1.length ac2, .bool q.b2, .slice a3 q.t2.length ac3, .slice a4 q.q2.length ac4]), (1, .int .i64 s), (2, .int .i64 e)]) Try.func20 rfl Try.ntmps20 rfl rfl ?_
 intro Q hret hnorm hP a hA
 refine wp_seq_k (fun K1 hK1 => ?_)
 refine wp_region_lit ?_
 refine seq_new hA hS rfl rfl rfl (fun g => .pointer (some ⟨g, 0, none⟩)) (d_box rfl rfl) rfl ?_
 intro g2 w3 hS a hA
 refine seq_new (vs := [.bool false, .slice none 0 0, .slice none 0 0, .bool false, .slice none 0 0, .slice none 0 0]) (t := 26) hA hS rfl rfl rfl (fun g => .pointer (some ⟨g, 0, none⟩)) (d_alloc (z := .agg #[.bool false, .slice none 0 0, .slice none 0 0, .bool false, .slice none 0 0, .slice none 0 0]) (by kernel_rfl) rfl) rfl ?_
 intro g4 w5 hS a hA
 refine seq_do hA rfl rfl rfl (d_assign rfl) ?_
 intro a hA
 refine seq_end ?_
 refine hK1 _ _ ?_
 refine wp_seq_k (fun K6 hK6 => ?_)
 refine wp_seq_k (fun K7 hK7 => ?_)
 refine wp_region_lit ?_
 refine seq_do hA rfl rfl rfl (d_loadS hS BiP_isS_26 rfl 1 rfl (cs := [.bool q.b1, .slice a1 q.t1.length ac1, .slice a2 q.q1.length ac2, .bool q.b2, .slice a3 q.t2.length ac3, .slice a4 q.q2.length ac4]) rfl rfl) ?_
 intro a hA
 refine seq_new (vs := [.bool q.b1, .slice a1 q.t1.length ac1, .slice a2 q.q1.length ac2, .bool q.b2, .slice a3 q.t2.length ac3, .slice a4 q.q2.length ac4]) (t := 26) hA hS rfl rfl rfl (fun g => .slice (some ⟨g, 0, none⟩) 1 1) (d_buildSlice rfl (by kernel_rfl)) rfl ?_
 intro g8 w9 hS a hA
 refine seq_call hA rfl rfl rfl (enters_func  rfl rfl (fun w => by kernel_rfl)) (want1_any (show Nm _ q a1 ac1 a2 ac2 a3 ac3 a4 ac4 from ⟨⟨(hS.rd 3 rfl), ha.s1.nil, ha.s1.cap⟩, ⟨(hS.rd 2 rfl), ha.s2.nil, ha.s2.cap⟩, ⟨(hS.rd 1 rfl), ha.s3.nil, ha.s3.cap⟩, ⟨(hS.rd 0 rfl), ha.s4.nil, ha.s4.cap⟩⟩) hl (hS.blk 0 rfl) rfl) ?_
 rintro _ w11 ⟨rfl, hb10⟩
 replace hS := hS.call hb10
 refine ⟨_, rfl, ?_⟩
 intro a hA
 refine seq_do hA rfl rfl rfl (d_assign rfl) ?_
 intro a hA
 refine seq_end ?_
 refine hK7 _ _ ?_
 refine wp_seq_k (fun K12 hK12 => ?_)
 refine wp_region_lit ?_
 refine seq_do hA rfl rfl rfl (d_move rfl) ?_
 intro a hA
 refine seq_do (v := .bool true) hA rfl rfl rfl (d_bin rfl rfl (fun w => (bin_neq w).trans (by rw [show ((want1 q != 0)) = true from hw]))) ?_
 intro a hA
 refine seq_end ?_
 refine hK12 _ _ ?_
 refine wp_cond_true (hA.ev rfl) ?_
 refine wp_seq_k (fun K13 hK13 => ?_)
 refine wp_region_lit ?_
 refine seq_do (v := .agg #[.bool false, .slice none 0 0, .slice none 0 0, .bool false, .slice none 0 0, .slice none 0 0]) hA rfl rfl rfl (d_build rfl (fun w => by kernel_rfl)) ?_
 intro a hA
 refine seq_do hA rfl rfl rfl (d_move rfl) ?_
 intro a hA
 refine seq_store (us := [.bool false, .slice none 0 0, .slice none 0 0, .bool false, .slice none 0 0, .slice none 0 0]) hA hS rfl rfl (sets_store rfl rfl rfl (by kernel_rfl) hS 1 rfl rfl rfl) 1 rfl rfl rfl rfl ?_
 intro w14 hS
 refine seq_do hA rfl rfl rfl (d_assign rfl) ?_
 intro a hA
 refine seq_end ?_
 refine hK13 _ _ ?_
 refine wp_ret ?_
 refine hret _ _ ?_
 refine ends (v := .tuple #[.agg #[.bool false, .slice none 0 0, .slice none 0 0, .bool false, .slice none 0 0, .slice none 0 0], .int .i64 (want1 q)]) hA rfl (.cons (res_cell hS BiP_isS_26 rfl 1 rfl (cs := [.bool false, .slice none 0 0, .slice none 0 0, .bool false, .slice none 0 0, .slice none 0 0]) rfl rfl) (.cons (res_tmp rfl) .nil)) rfl ?_
 rw [fieldQ_err hw]
 exact ⟨none, 0, none, 0, none, 0, none, 0, rfl, ⟨(Sc.none _), (Sc.none _), (Sc.none _), (Sc.none _)⟩, hS.bel⟩
theorem fieldPA_any {w : World} {b : Bool} {x : Nat} {a1 a2 a3 a4 : Option Addr} {ac1 ac2 ac3 ac4 : Nat} (ha : Nm w (Q6.whole b x) a1 ac1 a2 ac2 a3 ac3 a4 ac4) (hl : LenQ (Q6.whole b x)) {s e : Int} (hw : want1 (Q6.whole b x) = 0) (hx : (words x).length ≤ 512) (hb : b.toNat ≤ x) (hs : s < 0 ∨ e < s ∨ 16384 < e) : Calls Try.prog 20 #[numV (Q6.whole b x) a1 ac1 a2 ac2 a3 ac3 a4 ac4, .int .i64 s, .int .i64 e] w (AnsN w (fieldQ (Q6.whole b x) s e)) := by
 have hS : St w w [] [(a4, [1]), (a3, []), (a2, [1]), (a1, words x)] [] := ((((St.start w).addR ha.s1.rd).addR ha.s2.rd).addR ha.s3.rd).addR ha.s4.rd
 refine walk_of (l := [(0, .agg #[.bool b, .slice a1 ((words x).length) ac1, .slice a2 1 ac2, .bool false, .slice a3 0 ac3, .slice a4 1 ac4]), (1, .int .i64 s), (2, .int .i64 e)]) Try.func20 rfl Try.ntmps20 rfl rfl ?_
 intro Q hret hnorm hP a hA
 refine wp_seq_k (fun K1 hK1 => ?_)
 refine wp_region_lit ?_
 refine seq_new hA hS rfl rfl rfl (fun g => .pointer (some ⟨g, 0, none⟩)) (d_box rfl rfl) rfl ?_
 intro g2 w3 hS a hA
 refine seq_new (vs := [.bool false, .slice none 0 0, .slice none 0 0, .bool false, .slice none 0 0, .slice none 0 0]) (t := 26) hA hS rfl rfl rfl (fun g => .pointer (some ⟨g, 0, none⟩)) (d_alloc (z := .agg #[.bool false, .slice none 0 0, .slice none 0 0, .bool false, .slice none 0 0, .slice none 0 0]) (by kernel_rfl) rfl) rfl ?_
 intro g4 w5 hS a hA
 refine seq_do hA rfl rfl rfl (d_assign rfl) ?_
 intro a hA
 refine seq_end ?_
 refine hK1 _ _ ?_
 refine wp_seq_k (fun K6 hK6 => ?_)
 refine wp_seq_k (fun K7 hK7 => ?_)
 refine wp_region_lit ?_
 refine seq_do hA rfl rfl rfl (d_loadS hS BiP_isS_26 rfl 1 rfl (cs := [.bool b, .slice a1 ((words x).length) ac1, .slice a2 1 ac2, .bool false, .slice a3 0 ac3, .slice a4 1 ac4]) rfl rfl) ?_
 intro a hA
 refine seq_new (vs := [.bool b, .slice a1 ((words x).length) ac1, .slice a2 1 ac2, .bool false, .slice a3 0 ac3, .slice a4 1 ac4]) (t := 26) hA hS rfl rfl rfl (fun g => .slice (some ⟨g, 0, none⟩) 1 1) (d_buildSlice rfl (by kernel_rfl)) rfl ?_
 intro g8 w9 hS a hA
 refine seq_call hA rfl rfl rfl (enters_func  rfl rfl (fun w => by kernel_rfl)) (want1_any (show Nm _ (Q6.whole b x) a1 ac1 a2 ac2 a3 ac3 a4 ac4 from ⟨⟨(hS.rd 3 rfl), ha.s1.nil, ha.s1.cap⟩, ⟨(hS.rd 2 rfl), ha.s2.nil, ha.s2.cap⟩, ⟨(hS.rd 1 rfl), ha.s3.nil, ha.s3.cap⟩, ⟨(hS.rd 0 rfl), ha.s4.nil, ha.s4.cap⟩⟩) hl (hS.blk 0 rfl) hw) ?_
 rintro _ w11 ⟨rfl, hb10⟩
 replace hS := hS.call hb10
 refine ⟨_, rfl, ?_⟩
 intro a hA
 refine seq_do hA rfl rfl rfl (d_assign rfl) ?_
 intro a hA
 refine seq_end ?_
 refine hK7 _ _ ?_
 refine wp_seq_k (fun K12 hK12 => ?_)
 refine wp_region_lit ?_
 refine seq_do hA rfl rfl rfl (d_move rfl) ?_
 intro a hA
 refine seq_do (v := .bool false) hA rfl rfl rfl (d_bin rfl rfl (fun w => by kernel_rfl)) ?_
 intro a hA
 refine seq_end ?_
 refine hK12 _ _ ?_
 refine wp_cond_false (hA.ev rfl) ?_
 refine wp_skip ?_
 refine hK6 _ _ ?_
 refine wp_seq_k (fun K13 hK13 => ?_)
 refine wp_seq_k (fun K14 hK14 => ?_)
 refine wp_region_lit ?_
 refine seq_do hA rfl rfl rfl (d_move rfl) ?_
 intro a hA
 rcases Bool.eq_false_or_eq_true (decide (s < 0)) with hb15 | hb15
 · have hb15' := of_decide_eq_true hb15
   refine seq_do (v := .bool true) hA rfl rfl rfl (d_bin rfl rfl (fun w => (bin_lss w).trans (by rw [hb15]))) ?_
   intro a hA
   refine seq_do hA rfl rfl rfl (d_move rfl) ?_
   intro a hA
   refine seq_skip hA rfl rfl rfl ?_
   intro a hA
   refine seq_skip hA rfl rfl rfl ?_
   intro a hA
   refine seq_skip hA rfl rfl rfl ?_
   intro a hA
   refine seq_do (v := .bool true) hA rfl rfl rfl (d_pick rfl rfl rfl rfl) ?_
   intro a hA
   refine seq_do hA rfl rfl rfl (d_move rfl) ?_
   intro a hA
   refine seq_skip hA rfl rfl rfl ?_
   intro a hA
   refine seq_skip hA rfl rfl rfl ?_
   intro a hA
   refine seq_do (v := .bool true) hA rfl rfl rfl (d_pick rfl rfl rfl rfl) ?_
   intro a hA
   refine seq_end ?_
   refine hK14 _ _ ?_
   refine wp_cond_true (hA.ev rfl) ?_
   refine wp_seq_k (fun K16 hK16 => ?_)
   refine wp_region_lit ?_
   refine seq_do (v := .agg #[.bool false, .slice none 0 0, .slice none 0 0, .bool false, .slice none 0 0, .slice none 0 0]) hA rfl rfl rfl (d_build rfl (fun w => by kernel_rfl)) ?_
   intro a hA
   refine seq_store (us := [.bool false, .slice none 0 0, .slice none 0 0, .bool false, .slice none 0 0, .slice none 0 0]) hA hS rfl rfl (sets_store rfl rfl rfl (by kernel_rfl) hS 1 rfl rfl rfl) 1 rfl rfl rfl rfl ?_
   intro w17 hS
   refine seq_do hA rfl rfl rfl (d_assign rfl) ?_
   intro a hA
   refine seq_end ?_
   refine hK16 _ _ ?_
   refine wp_ret ?_
   refine hret _ _ ?_
   refine ends (v := .tuple #[.agg #[.bool false, .slice none 0 0, .slice none 0 0, .bool false, .slice none 0 0, .slice none 0 0], .int .i64 1]) hA rfl (.cons (res_cell hS BiP_isS_26 rfl 1 rfl (cs := [.bool false, .slice none 0 0, .slice none 0 0, .bool false, .slice none 0 0, .slice none 0 0]) rfl rfl) (.cons (res_tmp rfl) .nil)) rfl ?_
   rw [fieldQ_arg hw (by omega)]
   exact ⟨none, 0, none, 0, none, 0, none, 0, rfl, ⟨(Sc.none _), (Sc.none _), (Sc.none _), (Sc.none _)⟩, hS.bel⟩
 · have hb15' := of_decide_eq_false hb15
   refine seq_do (v := .bool false) hA rfl rfl rfl (d_bin rfl rfl (fun w => (bin_lss w).trans (by rw [hb15]))) ?_
   intro a hA
   refine seq_do hA rfl rfl rfl (d_move rfl) ?_
   intro a hA
   refine seq_do hA rfl rfl rfl (d_move rfl) ?_
   intro a hA
   refine seq_do hA rfl rfl rfl (d_move rfl) ?_
   intro a hA
   rcases Bool.eq_false_or_eq_true (decide (e < s)) with hb18 | hb18
   · have hb18' := of_decide_eq_true hb18
     refine seq_do (v := .bool true) hA rfl rfl rfl (d_bin rfl rfl (fun w => (bin_lss w).trans (by rw [hb18]))) ?_
     intro a hA
     refine seq_do (v := .bool true) hA rfl rfl rfl (d_pick rfl rfl rfl rfl) ?_
     intro a hA
     refine seq_do hA rfl rfl rfl (d_move rfl) ?_
     intro a hA
     refine seq_skip hA rfl rfl rfl ?_
     intro a hA
     refine seq_skip hA rfl rfl rfl ?_
     intro a hA
     refine seq_do (v := .bool true) hA rfl rfl rfl (d_pick rfl rfl rfl rfl) ?_
     intro a hA
     refine seq_end ?_
     refine hK14 _ _ ?_
     refine wp_cond_true (hA.ev rfl) ?_
     refine wp_seq_k (fun K19 hK19 => ?_)
     refine wp_region_lit ?_
     refine seq_do (v := .agg #[.bool false, .slice none 0 0, .slice none 0 0, .bool false, .slice none 0 0, .slice none 0 0]) hA rfl rfl rfl (d_build rfl (fun w => by kernel_rfl)) ?_
     intro a hA
     refine seq_store (us := [.bool false, .slice none 0 0, .slice none 0 0, .bool false, .slice none 0 0, .slice none 0 0]) hA hS rfl rfl (sets_store rfl rfl rfl (by kernel_rfl) hS 1 rfl rfl rfl) 1 rfl rfl rfl rfl ?_
     intro w20 hS
     refine seq_do hA rfl rfl rfl (d_assign rfl) ?_
     intro a hA
     refine seq_end ?_
     refine hK19 _ _ ?_
     refine wp_ret ?_
     refine hret _ _ ?_
     refine ends (v := .tuple #[.agg #[.bool false, .slice none 0 0, .slice none 0 0, .bool false, .slice none 0 0, .slice none 0 0], .int .i64 1]) hA rfl (.cons (res_cell hS BiP_isS_26 rfl 1 rfl (cs := [.bool false, .slice none 0 0, .slice none 0 0, .bool false, .slice none 0 0, .slice none 0 0]) rfl rfl) (.cons (res_tmp rfl) .nil)) rfl ?_
     rw [fieldQ_arg hw (by omega)]
     exact ⟨none, 0, none, 0, none, 0, none, 0, rfl, ⟨(Sc.none _), (Sc.none _), (Sc.none _), (Sc.none _)⟩, hS.bel⟩
   · have hb18' := of_decide_eq_false hb18
     refine seq_do (v := .bool false) hA rfl rfl rfl (d_bin rfl rfl (fun w => (bin_lss w).trans (by rw [hb18]))) ?_
     intro a hA
     refine seq_do (v := .bool false) hA rfl rfl rfl (d_pick rfl rfl rfl rfl) ?_
     intro a hA
     refine seq_do hA rfl rfl rfl (d_move rfl) ?_
     intro a hA
     refine seq_do hA rfl rfl rfl (d_move rfl) ?_
     intro a hA
     refine seq_do (v := .bool true) hA rfl rfl rfl (d_bin rfl rfl (fun w => (bin_gtr w).trans (by rw [show (decide (16384 < e)) = true from (decide_eq_true (by omega))]))) ?_
     intro a hA
     refine seq_do (v := .bool true) hA rfl rfl rfl (d_pick rfl rfl rfl rfl) ?_
     intro a hA
     refine seq_end ?_
     refine hK14 _ _ ?_
     refine wp_cond_true (hA.ev rfl) ?_
     refine wp_seq_k (fun K21 hK21 => ?_)
     refine wp_region_lit ?_
     refine seq_do (v := .agg #[.bool false, .slice none 0 0, .slice none 0 0, .bool false, .slice none 0 0, .slice none 0 0]) hA rfl rfl rfl (d_build rfl (fun w => by kernel_rfl)) ?_
     intro a hA
     refine seq_store (us := [.bool false, .slice none 0 0, .slice none 0 0, .bool false, .slice none 0 0, .slice none 0 0]) hA hS rfl rfl (sets_store rfl rfl rfl (by kernel_rfl) hS 1 rfl rfl rfl) 1 rfl rfl rfl rfl ?_
     intro w22 hS
     refine seq_do hA rfl rfl rfl (d_assign rfl) ?_
     intro a hA
     refine seq_end ?_
     refine hK21 _ _ ?_
     refine wp_ret ?_
     refine hret _ _ ?_
     refine ends (v := .tuple #[.agg #[.bool false, .slice none 0 0, .slice none 0 0, .bool false, .slice none 0 0, .slice none 0 0], .int .i64 1]) hA rfl (.cons (res_cell hS BiP_isS_26 rfl 1 rfl (cs := [.bool false, .slice none 0 0, .slice none 0 0, .bool false, .slice none 0 0, .slice none 0 0]) rfl rfl) (.cons (res_tmp rfl) .nil)) rfl ?_
     rw [fieldQ_arg hw (by omega)]
     exact ⟨none, 0, none, 0, none, 0, none, 0, rfl, ⟨(Sc.none _), (Sc.none _), (Sc.none _), (Sc.none _)⟩, hS.bel⟩
theorem fieldRE_any {w : World} {q : Q6} {a1 a2 a3 a4 : Option Addr} {ac1 ac2 ac3 ac4 : Nat} (ha : Nm w q a1 ac1 a2 ac2 a3 ac3 a4 ac4) (hl : LenQ q) {s e : Int} (hw : (want1 q != 0) = true) : Calls Try.prog 21 #[numV q a1 ac1 a2 ac2 a3 ac3 a4 ac4, .int .i64 s, .int .i64 e] w (AnsN w (fieldQ q s e)) := by
 have hS : St w w [] [(a4, q.q2), (a3, q.t2), (a2, q.q1), (a1, q.t1)] [] := ((((St.start w).addR ha.s1.rd).addR ha.s2.rd).addR ha.s3.rd).addR ha.s4.rd
 refine walk_of (l := [(0, .agg #[.bool q.b1, .slice a1 q.t1.length ac1, .slice a2 q.q1.length ac2, .bool q.b2, .slice a3 q.t2.length ac3, .slice a4 q.q2.length ac4]), (1, .int .i64 s), (2, .int .i64 e)]) Try.func21 rfl Try.ntmps21 rfl rfl ?_
 intro Q hret hnorm hP a hA
 refine wp_seq_k (fun K1 hK1 => ?_)
 refine wp_region_lit ?_
 refine seq_new hA hS rfl rfl rfl (fun g => .pointer (some ⟨g, 0, none⟩)) (d_box rfl rfl) rfl ?_
 intro g2 w3 hS a hA
 refine seq_new (vs := [.bool false, .slice none 0 0, .slice none 0 0, .bool false, .slice none 0 0, .slice none 0 0]) (t := 26) hA hS rfl rfl rfl (fun g => .pointer (some ⟨g, 0, none⟩)) (d_alloc (z := .agg #[.bool false, .slice none 0 0, .slice none 0 0, .bool false, .slice none 0 0, .slice none 0 0]) (by kernel_rfl) rfl) rfl ?_
 intro g4 w5 hS a hA
 refine seq_do hA rfl rfl rfl (d_assign rfl) ?_
 intro a hA
 refine seq_end ?_
 refine hK1 _ _ ?_
 refine wp_seq_k (fun K6 hK6 => ?_)
 refine wp_region_lit ?_
 refine seq_do hA rfl rfl rfl (d_loadS hS BiP_isS_26 rfl 1 rfl (cs := [.bool q.b1, .slice a1 q.t1.length ac1, .slice a2 q.q1.length ac2, .bool q.b2, .slice a3 q.t2.length ac3, .slice a4 q.q2.length ac4]) rfl rfl) ?_
 intro a hA
 refine seq_new (vs := [.bool q.b1, .slice a1 q.t1.length ac1, .slice a2 q.q1.length ac2, .bool q.b2, .slice a3 q.t2.length ac3, .slice a4 q.q2.length ac4]) (t := 26) hA hS rfl rfl rfl (fun g => .slice (some ⟨g, 0, none⟩) 1 1) (d_buildSlice rfl (by kernel_rfl)) rfl ?_
 intro g7 w8 hS a hA
 refine seq_call hA rfl rfl rfl (enters_func  rfl rfl (fun w => by kernel_rfl)) (rcheck1_any (show Nm _ q a1 ac1 a2 ac2 a3 ac3 a4 ac4 from ⟨⟨(hS.rd 3 rfl), ha.s1.nil, ha.s1.cap⟩, ⟨(hS.rd 2 rfl), ha.s2.nil, ha.s2.cap⟩, ⟨(hS.rd 1 rfl), ha.s3.nil, ha.s3.cap⟩, ⟨(hS.rd 0 rfl), ha.s4.nil, ha.s4.cap⟩⟩) hl (hS.blk 0 rfl) rfl) ?_
 rintro _ w10 ⟨rfl, hb9⟩
 replace hS := hS.call hb9
 refine ⟨_, rfl, ?_⟩
 intro a hA
 refine seq_do hA rfl rfl rfl (d_assign rfl) ?_
 intro a hA
 refine seq_end ?_
 refine hK6 _ _ ?_
 refine wp_seq_k (fun K11 hK11 => ?_)
 refine wp_seq_k (fun K12 hK12 => ?_)
 refine wp_region_lit ?_
 refine seq_do hA rfl rfl rfl (d_move rfl) ?_
 intro a hA
 refine seq_do (v := .bool true) hA rfl rfl rfl (d_bin rfl rfl (fun w => (bin_neq w).trans (by rw [show ((want1 q != 0)) = true from hw]))) ?_
 intro a hA
 refine seq_end ?_
 refine hK12 _ _ ?_
 refine wp_cond_true (hA.ev rfl) ?_
 refine wp_seq_k (fun K13 hK13 => ?_)
 refine wp_region_lit ?_
 refine seq_do (v := .agg #[.bool false, .slice none 0 0, .slice none 0 0, .bool false, .slice none 0 0, .slice none 0 0]) hA rfl rfl rfl (d_build rfl (fun w => by kernel_rfl)) ?_
 intro a hA
 refine seq_do hA rfl rfl rfl (d_move rfl) ?_
 intro a hA
 refine seq_store (us := [.bool false, .slice none 0 0, .slice none 0 0, .bool false, .slice none 0 0, .slice none 0 0]) hA hS rfl rfl (sets_store rfl rfl rfl (by kernel_rfl) hS 1 rfl rfl rfl) 1 rfl rfl rfl rfl ?_
 intro w14 hS
 refine seq_do hA rfl rfl rfl (d_assign rfl) ?_
 intro a hA
 refine seq_end ?_
 refine hK13 _ _ ?_
 refine wp_ret ?_
 refine hret _ _ ?_
 refine ends (v := .tuple #[.agg #[.bool false, .slice none 0 0, .slice none 0 0, .bool false, .slice none 0 0, .slice none 0 0], .int .i64 (want1 q)]) hA rfl (.cons (res_cell hS BiP_isS_26 rfl 1 rfl (cs := [.bool false, .slice none 0 0, .slice none 0 0, .bool false, .slice none 0 0, .slice none 0 0]) rfl rfl) (.cons (res_tmp rfl) .nil)) rfl ?_
 rw [fieldQ_err hw]
 exact ⟨none, 0, none, 0, none, 0, none, 0, rfl, ⟨(Sc.none _), (Sc.none _), (Sc.none _), (Sc.none _)⟩, hS.bel⟩
theorem fieldRA_any {w : World} {b : Bool} {x : Nat} {a1 a2 a3 a4 : Option Addr} {ac1 ac2 ac3 ac4 : Nat} (ha : Nm w (Q6.whole b x) a1 ac1 a2 ac2 a3 ac3 a4 ac4) (hl : LenQ (Q6.whole b x)) {s e : Int} (hw : want1 (Q6.whole b x) = 0) (hx : (words x).length ≤ 512) (hb : b.toNat ≤ x) (hs : s < 0 ∨ e < s ∨ 16384 < e) : Calls Try.prog 21 #[numV (Q6.whole b x) a1 ac1 a2 ac2 a3 ac3 a4 ac4, .int .i64 s, .int .i64 e] w (AnsN w (fieldQ (Q6.whole b x) s e)) := by
 have hS : St w w [] [(a4, [1]), (a3, []), (a2, [1]), (a1, words x)] [] := ((((St.start w).addR ha.s1.rd).addR ha.s2.rd).addR ha.s3.rd).addR ha.s4.rd
 refine walk_of (l := [(0, .agg #[.bool b, .slice a1 ((words x).length) ac1, .slice a2 1 ac2, .bool false, .slice a3 0 ac3, .slice a4 1 ac4]), (1, .int .i64 s), (2, .int .i64 e)]) Try.func21 rfl Try.ntmps21 rfl rfl ?_
 intro Q hret hnorm hP a hA
 refine wp_seq_k (fun K1 hK1 => ?_)
 refine wp_region_lit ?_
 refine seq_new hA hS rfl rfl rfl (fun g => .pointer (some ⟨g, 0, none⟩)) (d_box rfl rfl) rfl ?_
 intro g2 w3 hS a hA
 refine seq_new (vs := [.bool false, .slice none 0 0, .slice none 0 0, .bool false, .slice none 0 0, .slice none 0 0]) (t := 26) hA hS rfl rfl rfl (fun g => .pointer (some ⟨g, 0, none⟩)) (d_alloc (z := .agg #[.bool false, .slice none 0 0, .slice none 0 0, .bool false, .slice none 0 0, .slice none 0 0]) (by kernel_rfl) rfl) rfl ?_
 intro g4 w5 hS a hA
 refine seq_do hA rfl rfl rfl (d_assign rfl) ?_
 intro a hA
 refine seq_end ?_
 refine hK1 _ _ ?_
 refine wp_seq_k (fun K6 hK6 => ?_)
 refine wp_region_lit ?_
 refine seq_do hA rfl rfl rfl (d_loadS hS BiP_isS_26 rfl 1 rfl (cs := [.bool b, .slice a1 ((words x).length) ac1, .slice a2 1 ac2, .bool false, .slice a3 0 ac3, .slice a4 1 ac4]) rfl rfl) ?_
 intro a hA
 refine seq_new (vs := [.bool b, .slice a1 ((words x).length) ac1, .slice a2 1 ac2, .bool false, .slice a3 0 ac3, .slice a4 1 ac4]) (t := 26) hA hS rfl rfl rfl (fun g => .slice (some ⟨g, 0, none⟩) 1 1) (d_buildSlice rfl (by kernel_rfl)) rfl ?_
 intro g7 w8 hS a hA
 refine seq_call hA rfl rfl rfl (enters_func  rfl rfl (fun w => by kernel_rfl)) (rcheck1_any (show Nm _ (Q6.whole b x) a1 ac1 a2 ac2 a3 ac3 a4 ac4 from ⟨⟨(hS.rd 3 rfl), ha.s1.nil, ha.s1.cap⟩, ⟨(hS.rd 2 rfl), ha.s2.nil, ha.s2.cap⟩, ⟨(hS.rd 1 rfl), ha.s3.nil, ha.s3.cap⟩, ⟨(hS.rd 0 rfl), ha.s4.nil, ha.s4.cap⟩⟩) hl (hS.blk 0 rfl) hw) ?_
 rintro _ w10 ⟨rfl, hb9⟩
 replace hS := hS.call hb9
 refine ⟨_, rfl, ?_⟩
 intro a hA
 refine seq_do hA rfl rfl rfl (d_assign rfl) ?_
 intro a hA
 refine seq_end ?_
 refine hK6 _ _ ?_
 refine wp_seq_k (fun K11 hK11 => ?_)
 refine wp_seq_k (fun K12 hK12 => ?_)
 refine wp_region_lit ?_
 refine seq_do hA rfl rfl rfl (d_move rfl) ?_
 intro a hA
 refine seq_do (v := .bool false) hA rfl rfl rfl (d_bin rfl rfl (fun w => by kernel_rfl)) ?_
 intro a hA
 refine seq_end ?_
 refine hK12 _ _ ?_
 refine wp_cond_false (hA.ev rfl) ?_
 refine wp_skip ?_
 refine hK11 _ _ ?_
 refine wp_seq_k (fun K13 hK13 => ?_)
 refine wp_seq_k (fun K14 hK14 => ?_)
 refine wp_region_lit ?_
 refine seq_do hA rfl rfl rfl (d_move rfl) ?_
 intro a hA
 rcases Bool.eq_false_or_eq_true (decide (s < 0)) with hb15 | hb15
 · have hb15' := of_decide_eq_true hb15
   refine seq_do (v := .bool true) hA rfl rfl rfl (d_bin rfl rfl (fun w => (bin_lss w).trans (by rw [hb15]))) ?_
   intro a hA
   refine seq_do hA rfl rfl rfl (d_move rfl) ?_
   intro a hA
   refine seq_skip hA rfl rfl rfl ?_
   intro a hA
   refine seq_skip hA rfl rfl rfl ?_
   intro a hA
   refine seq_skip hA rfl rfl rfl ?_
   intro a hA
   refine seq_do (v := .bool true) hA rfl rfl rfl (d_pick rfl rfl rfl rfl) ?_
   intro a hA
   refine seq_do hA rfl rfl rfl (d_move rfl) ?_
   intro a hA
   refine seq_skip hA rfl rfl rfl ?_
   intro a hA
   refine seq_skip hA rfl rfl rfl ?_
   intro a hA
   refine seq_do (v := .bool true) hA rfl rfl rfl (d_pick rfl rfl rfl rfl) ?_
   intro a hA
   refine seq_end ?_
   refine hK14 _ _ ?_
   refine wp_cond_true (hA.ev rfl) ?_
   refine wp_seq_k (fun K16 hK16 => ?_)
   refine wp_region_lit ?_
   refine seq_do (v := .agg #[.bool false, .slice none 0 0, .slice none 0 0, .bool false, .slice none 0 0, .slice none 0 0]) hA rfl rfl rfl (d_build rfl (fun w => by kernel_rfl)) ?_
   intro a hA
   refine seq_store (us := [.bool false, .slice none 0 0, .slice none 0 0, .bool false, .slice none 0 0, .slice none 0 0]) hA hS rfl rfl (sets_store rfl rfl rfl (by kernel_rfl) hS 1 rfl rfl rfl) 1 rfl rfl rfl rfl ?_
   intro w17 hS
   refine seq_do hA rfl rfl rfl (d_assign rfl) ?_
   intro a hA
   refine seq_end ?_
   refine hK16 _ _ ?_
   refine wp_ret ?_
   refine hret _ _ ?_
   refine ends (v := .tuple #[.agg #[.bool false, .slice none 0 0, .slice none 0 0, .bool false, .slice none 0 0, .slice none 0 0], .int .i64 1]) hA rfl (.cons (res_cell hS BiP_isS_26 rfl 1 rfl (cs := [.bool false, .slice none 0 0, .slice none 0 0, .bool false, .slice none 0 0, .slice none 0 0]) rfl rfl) (.cons (res_tmp rfl) .nil)) rfl ?_
   rw [fieldQ_arg hw (by omega)]
   exact ⟨none, 0, none, 0, none, 0, none, 0, rfl, ⟨(Sc.none _), (Sc.none _), (Sc.none _), (Sc.none _)⟩, hS.bel⟩
 · have hb15' := of_decide_eq_false hb15
   refine seq_do (v := .bool false) hA rfl rfl rfl (d_bin rfl rfl (fun w => (bin_lss w).trans (by rw [hb15]))) ?_
   intro a hA
   refine seq_do hA rfl rfl rfl (d_move rfl) ?_
   intro a hA
   refine seq_do hA rfl rfl rfl (d_move rfl) ?_
   intro a hA
   refine seq_do hA rfl rfl rfl (d_move rfl) ?_
   intro a hA
   rcases Bool.eq_false_or_eq_true (decide (e < s)) with hb18 | hb18
   · have hb18' := of_decide_eq_true hb18
     refine seq_do (v := .bool true) hA rfl rfl rfl (d_bin rfl rfl (fun w => (bin_lss w).trans (by rw [hb18]))) ?_
     intro a hA
     refine seq_do (v := .bool true) hA rfl rfl rfl (d_pick rfl rfl rfl rfl) ?_
     intro a hA
     refine seq_do hA rfl rfl rfl (d_move rfl) ?_
     intro a hA
     refine seq_skip hA rfl rfl rfl ?_
     intro a hA
     refine seq_skip hA rfl rfl rfl ?_
     intro a hA
     refine seq_do (v := .bool true) hA rfl rfl rfl (d_pick rfl rfl rfl rfl) ?_
     intro a hA
     refine seq_end ?_
     refine hK14 _ _ ?_
     refine wp_cond_true (hA.ev rfl) ?_
     refine wp_seq_k (fun K19 hK19 => ?_)
     refine wp_region_lit ?_
     refine seq_do (v := .agg #[.bool false, .slice none 0 0, .slice none 0 0, .bool false, .slice none 0 0, .slice none 0 0]) hA rfl rfl rfl (d_build rfl (fun w => by kernel_rfl)) ?_
     intro a hA
     refine seq_store (us := [.bool false, .slice none 0 0, .slice none 0 0, .bool false, .slice none 0 0, .slice none 0 0]) hA hS rfl rfl (sets_store rfl rfl rfl (by kernel_rfl) hS 1 rfl rfl rfl) 1 rfl rfl rfl rfl ?_
     intro w20 hS
     refine seq_do hA rfl rfl rfl (d_assign rfl) ?_
     intro a hA
     refine seq_end ?_
     refine hK19 _ _ ?_
     refine wp_ret ?_
     refine hret _ _ ?_
     refine ends (v := .tuple #[.agg #[.bool false, .slice none 0 0, .slice none 0 0, .bool false, .slice none 0 0, .slice none 0 0], .int .i64 1]) hA rfl (.cons (res_cell hS BiP_isS_26 rfl 1 rfl (cs := [.bool false, .slice none 0 0, .slice none 0 0, .bool false, .slice none 0 0, .slice none 0 0]) rfl rfl) (.cons (res_tmp rfl) .nil)) rfl ?_
     rw [fieldQ_arg hw (by omega)]
     exact ⟨none, 0, none, 0, none, 0, none, 0, rfl, ⟨(Sc.none _), (Sc.none _), (Sc.none _), (Sc.none _)⟩, hS.bel⟩
   · have hb18' := of_decide_eq_false hb18
     refine seq_do (v := .bool false) hA rfl rfl rfl (d_bin rfl rfl (fun w => (bin_lss w).trans (by rw [hb18]))) ?_
     intro a hA
     refine seq_do (v := .bool false) hA rfl rfl rfl (d_pick rfl rfl rfl rfl) ?_
     intro a hA
     refine seq_do hA rfl rfl rfl (d_move rfl) ?_
     intro a hA
     refine seq_do hA rfl rfl rfl (d_move rfl) ?_
     intro a hA
     refine seq_do (v := .bool true) hA rfl rfl rfl (d_bin rfl rfl (fun w => (bin_gtr w).trans (by rw [show (decide (16384 < e)) = true from (decide_eq_true (by omega))]))) ?_
     intro a hA
     refine seq_do (v := .bool true) hA rfl rfl rfl (d_pick rfl rfl rfl rfl) ?_
     intro a hA
     refine seq_end ?_
     refine hK14 _ _ ?_
     refine wp_cond_true (hA.ev rfl) ?_
     refine wp_seq_k (fun K21 hK21 => ?_)
     refine wp_region_lit ?_
     refine seq_do (v := .agg #[.bool false, .slice none 0 0, .slice none 0 0, .bool false, .slice none 0 0, .slice none 0 0]) hA rfl rfl rfl (d_build rfl (fun w => by kernel_rfl)) ?_
     intro a hA
     refine seq_store (us := [.bool false, .slice none 0 0, .slice none 0 0, .bool false, .slice none 0 0, .slice none 0 0]) hA hS rfl rfl (sets_store rfl rfl rfl (by kernel_rfl) hS 1 rfl rfl rfl) 1 rfl rfl rfl rfl ?_
     intro w22 hS
     refine seq_do hA rfl rfl rfl (d_assign rfl) ?_
     intro a hA
     refine seq_end ?_
     refine hK21 _ _ ?_
     refine wp_ret ?_
     refine hret _ _ ?_
     refine ends (v := .tuple #[.agg #[.bool false, .slice none 0 0, .slice none 0 0, .bool false, .slice none 0 0, .slice none 0 0], .int .i64 1]) hA rfl (.cons (res_cell hS BiP_isS_26 rfl 1 rfl (cs := [.bool false, .slice none 0 0, .slice none 0 0, .bool false, .slice none 0 0, .slice none 0 0]) rfl rfl) (.cons (res_tmp rfl) .nil)) rfl ?_
     rw [fieldQ_arg hw (by omega)]
     exact ⟨none, 0, none, 0, none, 0, none, 0, rfl, ⟨(Sc.none _), (Sc.none _), (Sc.none _), (Sc.none _)⟩, hS.bel⟩
theorem fieldPW_any {w : World} {b : Bool} {x : Nat} {a1 a2 a3 a4 : Option Addr} {ac1 ac2 ac3 ac4 : Nat} (ha : Nm w (Q6.whole b x) a1 ac1 a2 ac2 a3 ac3 a4 ac4) (hl : LenQ (Q6.whole b x)) {S E : Nat} (h1 : S ≤ E) (h2 : E ≤ 16384) (hw : want1 (Q6.whole b x) = 0) (hx : (words x).length ≤ 512) (hb : b.toNat ≤ x) : Calls Try.prog 20 #[numV (Q6.whole b x) a1 ac1 a2 ac2 a3 ac3 a4 ac4, .int .i64 ((S : Nat) : Int), .int .i64 ((E : Nat) : Int)] w (AnsN w (fieldQ (Q6.whole b x) (S : Int) (E : Int))) := by
 have hS : St w w [] [(a4, [1]), (a3, []), (a2, [1]), (a1, words x)] [] := ((((St.start w).addR ha.s1.rd).addR ha.s2.rd).addR ha.s3.rd).addR ha.s4.rd
 refine walk_of (l := [(0, .agg #[.bool b, .slice a1 ((words x).length) ac1, .slice a2 1 ac2, .bool false, .slice a3 0 ac3, .slice a4 1 ac4]), (1, .int .i64 (((S : Nat) : Int))), (2, .int .i64 (((E : Nat) : Int)))]) Try.func20 rfl Try.ntmps20 rfl rfl ?_
 intro Q hret hnorm hP a hA
 refine wp_seq_k (fun K1 hK1 => ?_)
 refine wp_region_lit ?_
 refine seq_new hA hS rfl rfl rfl (fun g => .pointer (some ⟨g, 0, none⟩)) (d_box rfl rfl) rfl ?_
 intro g2 w3 hS a hA
 refine seq_new (vs := [.bool false, .slice none 0 0, .slice none 0 0, .bool false, .slice none 0 0, .slice none 0 0]) (t := 26) hA hS rfl rfl rfl (fun g => .pointer (some ⟨g, 0, none⟩)) (d_alloc (z := .agg #[.bool false, .slice none 0 0, .slice none 0 0, .bool false, .slice none 0 0, .slice none 0 0]) (by kernel_rfl) rfl) rfl ?_
 intro g4 w5 hS a hA
 refine seq_do hA rfl rfl rfl (d_assign rfl) ?_
 intro a hA
 refine seq_end ?_
 refine hK1 _ _ ?_
 refine wp_seq_k (fun K6 hK6 => ?_)
 refine wp_seq_k (fun K7 hK7 => ?_)
 refine wp_region_lit ?_
 refine seq_do hA rfl rfl rfl (d_loadS hS BiP_isS_26 rfl 1 rfl (cs := [.bool b, .slice a1 ((words x).length) ac1, .slice a2 1 ac2, .bool false, .slice a3 0 ac3, .slice a4 1 ac4]) rfl rfl) ?_
 intro a hA
 refine seq_new (vs := [.bool b, .slice a1 ((words x).length) ac1, .slice a2 1 ac2, .bool false, .slice a3 0 ac3, .slice a4 1 ac4]) (t := 26) hA hS rfl rfl rfl (fun g => .slice (some ⟨g, 0, none⟩) 1 1) (d_buildSlice rfl (by kernel_rfl)) rfl ?_
 intro g8 w9 hS a hA
 refine seq_call hA rfl rfl rfl (enters_func  rfl rfl (fun w => by kernel_rfl)) (want1_any (show Nm _ (Q6.whole b x) a1 ac1 a2 ac2 a3 ac3 a4 ac4 from ⟨⟨(hS.rd 3 rfl), ha.s1.nil, ha.s1.cap⟩, ⟨(hS.rd 2 rfl), ha.s2.nil, ha.s2.cap⟩, ⟨(hS.rd 1 rfl), ha.s3.nil, ha.s3.cap⟩, ⟨(hS.rd 0 rfl), ha.s4.nil, ha.s4.cap⟩⟩) hl (hS.blk 0 rfl) hw) ?_
 rintro _ w11 ⟨rfl, hb10⟩
 replace hS := hS.call hb10
 refine ⟨_, rfl, ?_⟩
 intro a hA
 refine seq_do hA rfl rfl rfl (d_assign rfl) ?_
 intro a hA
 refine seq_end ?_
 refine hK7 _ _ ?_
 refine wp_seq_k (fun K12 hK12 => ?_)
 refine wp_region_lit ?_
 refine seq_do hA rfl rfl rfl (d_move rfl) ?_
 intro a hA
 refine seq_do (v := .bool false) hA rfl rfl rfl (d_bin rfl rfl (fun w => by kernel_rfl)) ?_
 intro a hA
 refine seq_end ?_
 refine hK12 _ _ ?_
 refine wp_cond_false (hA.ev rfl) ?_
 refine wp_skip ?_
 refine hK6 _ _ ?_
 refine wp_seq_k (fun K13 hK13 => ?_)
 refine wp_seq_k (fun K14 hK14 => ?_)
 refine wp_region_lit ?_
 refine seq_do hA rfl rfl rfl (d_move rfl) ?_
 intro a hA
 refine seq_do (v := .bool false) hA rfl rfl rfl (d_bin rfl rfl (fun w => (bin_lss w).trans (by rw [show (decide (((S : Nat) : Int) < 0)) = false from (decide_eq_false (by omega))]))) ?_
 intro a hA
 refine seq_do hA rfl rfl rfl (d_move rfl) ?_
 intro a hA
 refine seq_do hA rfl rfl rfl (d_move rfl) ?_
 intro a hA
 refine seq_do hA rfl rfl rfl (d_move rfl) ?_
 intro a hA
 refine seq_do (v := .bool false) hA rfl rfl rfl (d_bin rfl rfl (fun w => (bin_lss w).trans (by rw [show (decide (((E : Nat) : Int) < ((S : Nat) : Int))) = false from (decide_eq_false (by omega))]))) ?_
 intro a hA
 refine seq_do (v := .bool false) hA rfl rfl rfl (d_pick rfl rfl rfl rfl) ?_
 intro a hA
 refine seq_do hA rfl rfl rfl (d_move rfl) ?_
 intro a hA
 refine seq_do hA rfl rfl rfl (d_move rfl) ?_
 intro a hA
 refine seq_do (v := .bool false) hA rfl rfl rfl (d_bin rfl rfl (fun w => (bin_gtr w).trans (by rw [show (decide (16384 < ((E : Nat) : Int))) = false from (decide_eq_false (by omega))]))) ?_
 intro a hA
 refine seq_do (v := .bool false) hA rfl rfl rfl (d_pick rfl rfl rfl rfl) ?_
 intro a hA
 refine seq_end ?_
 refine hK14 _ _ ?_
 refine wp_cond_false (hA.ev rfl) ?_
 refine wp_skip ?_
 refine hK13 _ _ ?_
 refine wp_seq_k (fun K15 hK15 => ?_)
 refine wp_region_lit ?_
 refine seq_do hA rfl rfl rfl (d_loadS hS BiP_isS_26 rfl 2 rfl (cs := [.bool b, .slice a1 ((words x).length) ac1, .slice a2 1 ac2, .bool false, .slice a3 0 ac3, .slice a4 1 ac4]) rfl rfl) ?_
 intro a hA
 refine seq_call hA rfl rfl rfl (enters_func  rfl rfl (fun w => by kernel_rfl)) (rowOf_any (show Nm _ (Q6.whole b x) a1 ac1 a2 ac2 a3 ac3 a4 ac4 from ⟨⟨(hS.rd 3 rfl), ha.s1.nil, ha.s1.cap⟩, ⟨(hS.rd 2 rfl), ha.s2.nil, ha.s2.cap⟩, ⟨(hS.rd 1 rfl), ha.s3.nil, ha.s3.cap⟩, ⟨(hS.rd 0 rfl), ha.s4.nil, ha.s4.cap⟩⟩) hx hb) ?_
 rintro _ w20 ⟨ro16, rc17, rfl, hs18, hb19⟩
 replace hS := hS.call hb19
 replace hS := hS.addR hs18.rd
 refine ⟨_, rfl, ?_⟩
 intro a hA
 refine seq_do hA rfl rfl rfl (d_move rfl) ?_
 intro a hA
 refine seq_call hA rfl rfl rfl (enters_func  rfl rfl (fun w => by kernel_rfl)) ((show Calls Try.prog 37 #[.agg #[.bool b, .slice ro16 (words (x - b.toNat)).length rc17], .int .i64 ((S : Nat) : Int)] _ _ from down_any (n := ((S : Nat) : Int)) ⟨(hS.rd 0 rfl), hs18.nil, hs18.cap⟩ (sub_len hx) (by omega) (by omega))) ?_
 rintro _ w25 ⟨ro21, rc22, rfl, hs23, hb24⟩
 replace hS := hS.call hb24
 replace hS := hS.addR hs23.rd
 refine ⟨_, rfl, ?_⟩
 intro a hA
 refine seq_do hA rfl rfl rfl (d_move rfl) ?_
 intro a hA
 refine seq_do hA rfl rfl rfl (d_move rfl) ?_
 intro a hA
 refine seq_do (v := .int .i64 (((E - S : Nat) : Int))) hA rfl rfl rfl (d_bin rfl rfl (fun w => (bin_sub (i64In (by omega) (by omega)) w).trans (by rw [show (((E : Nat) : Int) - ((S : Nat) : Int) : Int) = ((E - S : Nat) : Int) from by omega]))) ?_
 intro a hA
 refine seq_call hA rfl rfl rfl (enters_func  rfl rfl (fun w => by kernel_rfl)) (lowest_row_any (c := E - S) (hS.rd 0 rfl) (Nat.le_trans (div_len (sub_len hx)) (by decide)) (by omega)) ?_
 rintro _ w30 ⟨ro26, rc27, rfl, ho28, hb29⟩
 replace hS := hS.call hb29
 replace hS := hS.addR ho28.rd
 refine ⟨_, rfl, ?_⟩
 intro a hA
 refine seq_call hA rfl rfl rfl (enters_func  rfl rfl (fun w => by kernel_rfl)) (wholeV_any false ⟨(hS.rd 0 rfl), ho28.nocap, ho28.caps⟩) ?_
 rintro _ w34 ⟨p31_1, p31_c1, p31_2, p31_c2, p31_3, p31_c3, p31_4, p31_c4, rfl, hn32, hb33⟩
 replace hS := hS.call hb33
 replace hS := hS.addR hn32.s1.rd
 replace hS := hS.addR hn32.s2.rd
 replace hS := hS.addR hn32.s3.rd
 replace hS := hS.addR hn32.s4.rd
 refine ⟨_, rfl, ?_⟩
 intro a hA
 refine seq_store (us := [.bool false, .slice p31_1 ((words (fld b ((x - b.toNat) / 2 ^ S) 0 (E - S))).length) p31_c1, .slice p31_2 1 p31_c2, .bool false, .slice p31_3 0 p31_c3, .slice p31_4 1 p31_c4]) hA hS rfl rfl (sets_store rfl rfl rfl (by kernel_rfl) hS 1 rfl rfl rfl) 1 rfl rfl rfl rfl ?_
 intro w35 hS
 refine seq_do hA rfl rfl rfl (d_assign rfl) ?_
 intro a hA
 refine seq_end ?_
 refine hK15 _ _ ?_
 refine wp_ret ?_
 refine hret _ _ ?_
 refine ends (v := .tuple #[.agg #[.bool false, .slice p31_1 ((words (fld b ((x - b.toNat) / 2 ^ S) 0 (E - S))).length) p31_c1, .slice p31_2 1 p31_c2, .bool false, .slice p31_3 0 p31_c3, .slice p31_4 1 p31_c4], .int .i64 0]) hA rfl (.cons (res_cell hS BiP_isS_26 rfl 1 rfl (cs := [.bool false, .slice p31_1 ((words (fld b ((x - b.toNat) / 2 ^ S) 0 (E - S))).length) p31_c1, .slice p31_2 1 p31_c2, .bool false, .slice p31_3 0 p31_c3, .slice p31_4 1 p31_c4]) rfl rfl) (.cons (res_tmp rfl) .nil)) rfl ?_
 rw [fieldQ_ok hw h1 h2, ← fld_down]
 exact ⟨p31_1, p31_c1, p31_2, p31_c2, p31_3, p31_c3, p31_4, p31_c4, rfl, ⟨⟨(hS.rd 3 rfl), hn32.s1.nil, hn32.s1.cap⟩, ⟨(hS.rd 2 rfl), hn32.s2.nil, hn32.s2.cap⟩, ⟨(hS.rd 1 rfl), hn32.s3.nil, hn32.s3.cap⟩, ⟨(hS.rd 0 rfl), hn32.s4.nil, hn32.s4.cap⟩⟩, hS.bel⟩
theorem tb_lt (b : Bool) (y i : Nat) {k : Nat} (hk : k < 32) : tbit b y i * 2 ^ k < 4294967296 := by
  have h2 : tbit b y i * 2 ^ k ≤ 1 * 2 ^ k := Nat.mul_le_mul_right _ (tbit_le b y i)
  have h3 : 2 ^ k ≤ 2 ^ 31 := Nat.pow_le_pow_right (by decide) (by omega)
  have h4 : (2 : Nat) ^ 31 = 2147483648 := rfl
  omega
theorem pads_last {F n : Nat} {l : List Nat} (h : Pads F (n + 1) l) (hF : F < pw n) : l.getD (l.length - 1) 0 = 0 := by
  rw [h.2, h.1, Nat.add_sub_cancel, Nat.div_eq_of_lt hF, Nat.zero_mod]
theorem fld_pw {b : Bool} {y s c n : Nat} (h : c ≤ 32 * n) : fld b y s c < pw n := by
  rw [pw_two]
  exact Nat.lt_of_lt_of_le (fld_lt b y s c) (Nat.pow_le_pow_right (by decide) h)
theorem fieldRW_any {w : World} {b : Bool} {x : Nat} {a1 a2 a3 a4 : Option Addr} {ac1 ac2 ac3 ac4 : Nat} (ha : Nm w (Q6.whole b x) a1 ac1 a2 ac2 a3 ac3 a4 ac4) (hl : LenQ (Q6.whole b x)) {S E : Nat} (h1 : S ≤ E) (h2 : E ≤ 16384) (hw : want1 (Q6.whole b x) = 0) (hx : (words x).length ≤ 512) (hb : b.toNat ≤ x) : Calls Try.prog 21 #[numV (Q6.whole b x) a1 ac1 a2 ac2 a3 ac3 a4 ac4, .int .i64 ((S : Nat) : Int), .int .i64 ((E : Nat) : Int)] w (AnsN w (fieldQ (Q6.whole b x) (S : Int) (E : Int))) := by
 have hS : St w w [] [(a4, [1]), (a3, []), (a2, [1]), (a1, words x)] [] := ((((St.start w).addR ha.s1.rd).addR ha.s2.rd).addR ha.s3.rd).addR ha.s4.rd
 refine walk_of (l := [(0, .agg #[.bool b, .slice a1 ((words x).length) ac1, .slice a2 1 ac2, .bool false, .slice a3 0 ac3, .slice a4 1 ac4]), (1, .int .i64 (((S : Nat) : Int))), (2, .int .i64 (((E : Nat) : Int)))]) Try.func21 rfl Try.ntmps21 rfl rfl ?_
 intro Q hret hnorm hP a hA
 refine wp_seq_k (fun K1 hK1 => ?_)
 refine wp_region_lit ?_
 refine seq_new hA hS rfl rfl rfl (fun g => .pointer (some ⟨g, 0, none⟩)) (d_box rfl rfl) rfl ?_
 intro g2 w3 hS a hA
 refine seq_new (vs := [.bool false, .slice none 0 0, .slice none 0 0, .bool false, .slice none 0 0, .slice none 0 0]) (t := 26) hA hS rfl rfl rfl (fun g => .pointer (some ⟨g, 0, none⟩)) (d_alloc (z := .agg #[.bool false, .slice none 0 0, .slice none 0 0, .bool false, .slice none 0 0, .slice none 0 0]) (by kernel_rfl) rfl) rfl ?_
 intro g4 w5 hS a hA
 refine seq_do hA rfl rfl rfl (d_assign rfl) ?_
 intro a hA
 refine seq_end ?_
 refine hK1 _ _ ?_
 refine wp_seq_k (fun K6 hK6 => ?_)
 refine wp_region_lit ?_
 refine seq_do hA rfl rfl rfl (d_loadS hS BiP_isS_26 rfl 1 rfl (cs := [.bool b, .slice a1 ((words x).length) ac1, .slice a2 1 ac2, .bool false, .slice a3 0 ac3, .slice a4 1 ac4]) rfl rfl) ?_
 intro a hA
 refine seq_new (vs := [.bool b, .slice a1 ((words x).length) ac1, .slice a2 1 ac2, .bool false, .slice a3 0 ac3, .slice a4 1 ac4]) (t := 26) hA hS rfl rfl rfl (fun g => .slice (some ⟨g, 0, none⟩) 1 1) (d_buildSlice rfl (by kernel_rfl)) rfl ?_
 intro g7 w8 hS a hA
 refine seq_call hA rfl rfl rfl (enters_func  rfl rfl (fun w => by kernel_rfl)) (rcheck1_any (show Nm _ (Q6.whole b x) a1 ac1 a2 ac2 a3 ac3 a4 ac4 from ⟨⟨(hS.rd 3 rfl), ha.s1.nil, ha.s1.cap⟩, ⟨(hS.rd 2 rfl), ha.s2.nil, ha.s2.cap⟩, ⟨(hS.rd 1 rfl), ha.s3.nil, ha.s3.cap⟩, ⟨(hS.rd 0 rfl), ha.s4.nil, ha.s4.cap⟩⟩) hl (hS.blk 0 rfl) hw) ?_
 rintro _ w10 ⟨rfl, hb9⟩
 replace hS := hS.call hb9
 refine ⟨_, rfl, ?_⟩
 intro a hA
 refine seq_do hA rfl rfl rfl (d_assign rfl) ?_
 intro a hA
 refine seq_end ?_
 refine hK6 _ _ ?_
 refine wp_seq_k (fun K11 hK11 => ?_)
 refine wp_seq_k (fun K12 hK12 => ?_)
 refine wp_region_lit ?_
 refine seq_do hA rfl rfl rfl (d_move rfl) ?_
 intro a hA
 refine seq_do (v := .bool false) hA rfl rfl rfl (d_bin rfl rfl (fun w => by kernel_rfl)) ?_
 intro a hA
 refine seq_end ?_
 refine hK12 _ _ ?_
 refine wp_cond_false (hA.ev rfl) ?_
 refine wp_skip ?_
 refine hK11 _ _ ?_
 refine wp_seq_k (fun K13 hK13 => ?_)
 refine wp_seq_k (fun K14 hK14 => ?_)
 refine wp_region_lit ?_
 refine seq_do hA rfl rfl rfl (d_move rfl) ?_
 intro a hA
 refine seq_do (v := .bool false) hA rfl rfl rfl (d_bin rfl rfl (fun w => (bin_lss w).trans (by rw [show (decide (((S : Nat) : Int) < 0)) = false from (decide_eq_false (by omega))]))) ?_
 intro a hA
 refine seq_do hA rfl rfl rfl (d_move rfl) ?_
 intro a hA
 refine seq_do hA rfl rfl rfl (d_move rfl) ?_
 intro a hA
 refine seq_do hA rfl rfl rfl (d_move rfl) ?_
 intro a hA
 refine seq_do (v := .bool false) hA rfl rfl rfl (d_bin rfl rfl (fun w => (bin_lss w).trans (by rw [show (decide (((E : Nat) : Int) < ((S : Nat) : Int))) = false from (decide_eq_false (by omega))]))) ?_
 intro a hA
 refine seq_do (v := .bool false) hA rfl rfl rfl (d_pick rfl rfl rfl rfl) ?_
 intro a hA
 refine seq_do hA rfl rfl rfl (d_move rfl) ?_
 intro a hA
 refine seq_do hA rfl rfl rfl (d_move rfl) ?_
 intro a hA
 refine seq_do (v := .bool false) hA rfl rfl rfl (d_bin rfl rfl (fun w => (bin_gtr w).trans (by rw [show (decide (16384 < ((E : Nat) : Int))) = false from (decide_eq_false (by omega))]))) ?_
 intro a hA
 refine seq_do (v := .bool false) hA rfl rfl rfl (d_pick rfl rfl rfl rfl) ?_
 intro a hA
 refine seq_end ?_
 refine hK14 _ _ ?_
 refine wp_cond_false (hA.ev rfl) ?_
 refine wp_skip ?_
 refine hK13 _ _ ?_
 refine wp_seq_k (fun K15 hK15 => ?_)
 refine wp_region_lit ?_
 refine seq_do hA rfl rfl rfl (d_loadS hS BiP_isS_26 rfl 2 rfl (cs := [.bool b, .slice a1 ((words x).length) ac1, .slice a2 1 ac2, .bool false, .slice a3 0 ac3, .slice a4 1 ac4]) rfl rfl) ?_
 intro a hA
 refine seq_do hA rfl rfl rfl (d_move rfl) ?_
 intro a hA
 refine seq_do (v := .int .i64 (((E / 32 : Nat) : Int))) hA rfl rfl rfl (d_bin rfl rfl (bin_quo (by omega))) ?_
 intro a hA
 refine seq_do (v := .pointer (some ⟨g2, 0, none⟩)) hA rfl rfl rfl (d_field BiP_fld_26_0 rfl rfl) ?_
 intro a hA
 refine seq_do (v := .pointer (some ⟨g2, 1, none⟩)) hA rfl rfl rfl (d_field BiP_fld_24_1 rfl rfl) ?_
 intro a hA
 refine seq_do hA rfl rfl rfl (d_load1 hS BiP_is1_22 rfl 2 rfl rfl) ?_
 intro a hA
 refine seq_do (v := .int .i64 ((((words x).length : Nat) : Int))) hA rfl rfl rfl (d_len Try.underlying22 rfl) ?_
 intro a hA
 refine seq_do (v := .int .i64 (((E / 32 + (words x).length : Nat) : Int))) hA rfl rfl rfl (d_bin rfl rfl (fun w => (bin_add (i64In (by omega) (by omega)) w).trans (by rw [show (((E / 32 : Nat) : Int) + (((words x).length : Nat) : Int) : Int) = ((E / 32 + (words x).length : Nat) : Int) from by omega]))) ?_
 intro a hA
 refine seq_do (v := .int .i64 (((E / 32 + (words x).length + 2 : Nat) : Int))) hA rfl rfl rfl (d_bin rfl rfl (fun w => (bin_add (i64In (by omega) (by omega)) w).trans (by rw [show (((E / 32 + (words x).length : Nat) : Int) + 2 : Int) = ((E / 32 + (words x).length + 2 : Nat) : Int) from by omega]))) ?_
 intro a hA
 refine seq_call hA rfl rfl rfl (enters_func  rfl rfl (fun w => by kernel_rfl)) (rrow_any (show Nm _ (Q6.whole b x) a1 ac1 a2 ac2 a3 ac3 a4 ac4 from ⟨⟨(hS.rd 3 rfl), ha.s1.nil, ha.s1.cap⟩, ⟨(hS.rd 2 rfl), ha.s2.nil, ha.s2.cap⟩, ⟨(hS.rd 1 rfl), ha.s3.nil, ha.s3.cap⟩, ⟨(hS.rd 0 rfl), ha.s4.nil, ha.s4.cap⟩⟩) hx hb (by omega)) ?_
 rintro _ w20 ⟨ro16, rc17, rfl, ho18, hb19⟩
 replace hS := hS.call hb19
 replace hS := hS.addR ho18.rd
 refine ⟨_, rfl, ?_⟩
 intro a hA
 refine seq_do hA rfl rfl rfl (d_assign rfl) ?_
 intro a hA
 refine seq_end ?_
 refine hK15 _ _ ?_
 refine wp_seq_k (fun K21 hK21 => ?_)
 refine wp_region_lit ?_
 refine seq_do hA rfl rfl rfl (d_move rfl) ?_
 intro a hA
 refine seq_do hA rfl rfl rfl (d_move rfl) ?_
 intro a hA
 refine seq_do (v := .int .i64 (((E - S : Nat) : Int))) hA rfl rfl rfl (d_bin rfl rfl (fun w => (bin_sub (i64In (by omega) (by omega)) w).trans (by rw [show (((E : Nat) : Int) - ((S : Nat) : Int) : Int) = ((E - S : Nat) : Int) from by omega]))) ?_
 intro a hA
 refine seq_do (v := .int .i64 ((((E - S) / 32 : Nat) : Int))) hA rfl rfl rfl (d_bin rfl rfl (bin_quo (by omega))) ?_
 intro a hA
 refine seq_do (v := .int .i64 ((((E - S) / 32 + 2 : Nat) : Int))) hA rfl rfl rfl (d_bin rfl rfl (fun w => (bin_add (i64In (by omega) (by omega)) w).trans (by rw [show ((((E - S) / 32 : Nat) : Int) + 2 : Int) = (((E - S) / 32 + 2 : Nat) : Int) from by omega]))) ?_
 intro a hA
 refine seq_make (m := (E - S) / 32 + 2) hA hS rfl rfl rfl (d_make Try.underlying22 (by kernel_rfl) rfl rfl (by omega)) (by omega) ?_
 intro g22 w23 hS a hA
 refine seq_do hA rfl rfl rfl (d_assign rfl) ?_
 intro a hA
 refine seq_end ?_
 refine hK21 _ _ ?_
 refine wp_seq_k (fun K24 hK24 => ?_)
 refine wp_seq_k (fun K25 hK25 => ?_)
 refine wp_region_lit ?_
 refine seq_do hA rfl rfl rfl (d_assign rfl) ?_
 intro a hA
 refine seq_end ?_
 refine hK25 _ _ ?_
 refine wp_block ?_
 refine wp_loop_n (fun m a w1 => ∃ (k : Nat) (l : List Nat), m = E - S - k ∧ (k ≤ E - S ∧ Pads (fld b (x - b.toNat) S k) ((E - S) / 32 + 2) l) ∧ Sl a 73 [(0, .agg #[.bool b, .slice a1 ((words x).length) ac1, .slice a2 1 ac2, .bool false, .slice a3 0 ac3, .slice a4 1 ac4]), (1, .int .i64 (((S : Nat) : Int))), (2, .int .i64 (((E : Nat) : Int))), (3, .pointer (some ⟨g2, 0, none⟩)), (6, .pointer (some ⟨g4, 0, none⟩)), (7, .int .i64 0), (8, .int .i64 0), (9, .slice ro16 ((rowL b (x - b.toNat) (E / 32 + (words x).length + 2)).length) rc17), (10, .slice (some ⟨g22, 0, none⟩) ((E - S) / 32 + 2) ((E - S) / 32 + 2)), (11, .int .i64 (((k : Nat) : Int))), (12, .agg #[.bool b, .slice a1 ((words x).length) ac1, .slice a2 1 ac2, .bool false, .slice a3 0 ac3, .slice a4 1 ac4]), (13, .slice (some ⟨g7, 0, none⟩) 1 1), (14, .int .i64 0), (15, .int .i64 0), (16, .bool false), (19, .int .i64 (((S : Nat) : Int))), (20, .bool false), (21, .bool false), (22, .int .i64 (((E : Nat) : Int))), (23, .int .i64 (((S : Nat) : Int))), (24, .bool false), (25, .bool false), (26, .bool false), (27, .int .i64 (((E : Nat) : Int))), (28, .bool false), (29, .bool false), (31, .agg #[.bool b, .slice a1 ((words x).length) ac1, .slice a2 1 ac2, .bool false, .slice a3 0 ac3, .slice a4 1 ac4]), (32, .int .i64 (((E : Nat) : Int))), (33, .int .i64 (((E / 32 : Nat) : Int))), (34, .pointer (some ⟨g2, 0, none⟩)), (35, .pointer (some ⟨g2, 1, none⟩)), (36, .slice a1 ((words x).length) ac1), (37, .int .i64 ((((words x).length : Nat) : Int))), (38, .int .i64 (((E / 32 + (words x).length : Nat) : Int))), (39, .int .i64 (((E / 32 + (words x).length + 2 : Nat) : Int))), (40, .slice ro16 ((rowL b (x - b.toNat) (E / 32 + (words x).length + 2)).length) rc17), (41, .int .i64 (((E : Nat) : Int))), (42, .int .i64 (((S : Nat) : Int))), (43, .int .i64 (((E - S : Nat) : Int))), (44, .int .i64 ((((E - S) / 32 : Nat) : Int))), (45, .int .i64 ((((E - S) / 32 + 2 : Nat) : Int))), (46, .slice (some ⟨g22, 0, none⟩) ((E - S) / 32 + 2) ((E - S) / 32 + 2))] ∧ St w w1 [(g7, [.bool b, .slice a1 ((words x).length) ac1, .slice a2 1 ac2, .bool false, .slice a3 0 ac3, .slice a4 1 ac4]), (g4, [.bool false, .slice none 0 0, .slice none 0 0, .bool false, .slice none 0 0, .slice none 0 0]), (g2, [.bool b, .slice a1 ((words x).length) ac1, .slice a2 1 ac2, .bool false, .slice a3 0 ac3, .slice a4 1 ac4])] [(ro16, rowL b (x - b.toNat) (E / 32 + (words x).length + 2)), (a4, [1]), (a3, []), (a2, [1]), (a1, words x)] [(some ⟨g22, 0, none⟩, (E - S) / 32 + 2, l)]) _ ⟨0, List.replicate ((E - S) / 32 + 2) 0, rfl, ⟨Nat.zero_le _, Pads.start _⟩, hA.keep _ ⟨rfl, rfl, rfl, rfl, rfl, rfl, rfl, rfl, rfl, rfl, rfl, rfl, rfl, rfl, rfl, rfl, rfl, rfl, rfl, rfl, rfl, rfl, rfl, rfl, rfl, rfl, rfl, rfl, rfl, rfl, rfl, rfl, rfl, rfl, rfl, rfl, rfl, rfl, rfl, rfl, rfl, rfl, trivial⟩, hS⟩ ?_
 clear hS hA
 rintro m a w26 ⟨k, l, rfl, hinv28, hA, hS⟩ K27 hK27
 obtain ⟨hle9, hpad9⟩ := hinv28
 have hll9 := hpad9.1
 have hdig9 := (hS.row 0 rfl).dig
 refine wp_seq_k (fun K29 hK29 => ?_)
 refine wp_seq_k (fun K30 hK30 => ?_)
 refine wp_region_lit ?_
 refine seq_do hA rfl rfl rfl (d_move rfl) ?_
 intro a hA
 refine seq_do hA rfl rfl rfl (d_move rfl) ?_
 intro a hA
 refine seq_do hA rfl rfl rfl (d_move rfl) ?_
 intro a hA
 refine seq_do (v := .int .i64 (((E - S : Nat) : Int))) hA rfl rfl rfl (d_bin rfl rfl (fun w => (bin_sub (i64In (by omega) (by omega)) w).trans (by rw [show (((E : Nat) : Int) - ((S : Nat) : Int) : Int) = ((E - S : Nat) : Int) from by omega]))) ?_
 intro a hA
 rcases Bool.eq_false_or_eq_true (decide (((k : Nat) : Int) < ((E - S : Nat) : Int))) with hb31 | hb31
 · have hb31' := of_decide_eq_true hb31
   refine seq_do (v := .bool true) hA rfl rfl rfl (d_bin rfl rfl (fun w => (bin_lss w).trans (by rw [hb31]))) ?_
   intro a hA
   refine seq_end ?_
   refine hK30 _ _ ?_
   refine wp_cond_true (hA.ev rfl) ?_
   refine wp_skip ?_
   refine hK29 _ _ ?_
   refine wp_seq_k (fun K32 hK32 => ?_)
   refine wp_block ?_
   have hJ44 : ∀ a w1, (Sl a 73 [(0, .agg #[.bool b, .slice a1 ((words x).length) ac1, .slice a2 1 ac2, .bool false, .slice a3 0 ac3, .slice a4 1 ac4]), (1, .int .i64 (((S : Nat) : Int))), (2, .int .i64 (((E : Nat) : Int))), (3, .pointer (some ⟨g2, 0, none⟩)), (6, .pointer (some ⟨g4, 0, none⟩)), (7, .int .i64 0), (8, .int .i64 0), (9, .slice ro16 ((rowL b (x - b.toNat) (E / 32 + (words x).length + 2)).length) rc17), (10, .slice (some ⟨g22, 0, none⟩) ((E - S) / 32 + 2) ((E - S) / 32 + 2)), (11, .int .i64 (((k : Nat) : Int))), (12, .agg #[.bool b, .slice a1 ((words x).length) ac1, .slice a2 1 ac2, .bool false, .slice a3 0 ac3, .slice a4 1 ac4]), (13, .slice (some ⟨g7, 0, none⟩) 1 1), (14, .int .i64 0), (15, .int .i64 0), (16, .bool false), (19, .int .i64 (((S : Nat) : Int))), (20, .bool false), (21, .bool false), (22, .int .i64 (((E : Nat) : Int))), (23, .int .i64 (((S : Nat) : Int))), (24, .bool false), (25, .bool false), (26, .bool false), (27, .int .i64 (((E : Nat) : Int))), (28, .bool false), (29, .bool false), (31, .agg #[.bool b, .slice a1 ((words x).length) ac1, .slice a2 1 ac2, .bool false, .slice a3 0 ac3, .slice a4 1 ac4]), (32, .int .i64 (((E : Nat) : Int))), (33, .int .i64 (((E / 32 : Nat) : Int))), (34, .pointer (some ⟨g2, 0, none⟩)), (35, .pointer (some ⟨g2, 1, none⟩)), (36, .slice a1 ((words x).length) ac1), (37, .int .i64 ((((words x).length : Nat) : Int))), (38, .int .i64 (((E / 32 + (words x).length : Nat) : Int))), (39, .int .i64 (((E / 32 + (words x).length + 2 : Nat) : Int))), (40, .slice ro16 ((rowL b (x - b.toNat) (E / 32 + (words x).length + 2)).length) rc17), (41, .int .i64 (((E : Nat) : Int))), (42, .int .i64 (((S : Nat) : Int))), (43, .int .i64 (((E - S : Nat) : Int))), (44, .int .i64 ((((E - S) / 32 : Nat) : Int))), (45, .int .i64 ((((E - S) / 32 + 2 : Nat) : Int))), (46, .slice (some ⟨g22, 0, none⟩) ((E - S) / 32 + 2) ((E - S) / 32 + 2)), (47, .int .i64 (((k : Nat) : Int))), (48, .int .i64 (((E : Nat) : Int))), (49, .int .i64 (((S : Nat) : Int))), (50, .int .i64 (((E - S : Nat) : Int))), (51, .bool true)] ∧ St w w1 [(g7, [.bool b, .slice a1 ((words x).length) ac1, .slice a2 1 ac2, .bool false, .slice a3 0 ac3, .slice a4 1 ac4]), (g4, [.bool false, .slice none 0 0, .slice none 0 0, .bool false, .slice none 0 0, .slice none 0 0]), (g2, [.bool b, .slice a1 ((words x).length) ac1, .slice a2 1 ac2, .bool false, .slice a3 0 ac3, .slice a4 1 ac4])] [(ro16, rowL b (x - b.toNat) (E / 32 + (words x).length + 2)), (a4, [1]), (a3, []), (a2, [1]), (a1, words x)] [(some ⟨g22, 0, none⟩, (E - S) / 32 + 2, l.set (k / 32) (l.getD (k / 32) 0 ||| tbit b (x - b.toNat) (S + k) * 2 ^ (k % 32)))]) → K32 a w1 := by
     clear hA hS
     rintro a w45 ⟨hA, hS⟩
     refine hK32 _ _ ?_
     refine wp_region_lit ?_
     refine seq_do hA rfl rfl rfl (d_move rfl) ?_
     intro a hA
     refine seq_do (v := .int .i64 (((k + 1 : Nat) : Int))) hA rfl rfl rfl (d_bin rfl rfl (fun w => (bin_add (i64In (by omega) (by omega)) w).trans (by rw [show (((k : Nat) : Int) + 1 : Int) = ((k + 1 : Nat) : Int) from by omega]))) ?_
     intro a hA
     refine seq_do hA rfl rfl rfl (d_assign rfl) ?_
     intro a hA
     refine seq_end ?_
     refine hK27 _ _ _ (by omega) ⟨k + 1, l.set (k / 32) (l.getD (k / 32) 0 ||| tbit b (x - b.toNat) (S + k) * 2 ^ (k % 32)), rfl, ⟨by omega, hpad9.step (fld_lt _ _ _ _) (tbit_le _ _ _) (by omega)⟩, hA.keep _ ⟨rfl, rfl, rfl, rfl, rfl, rfl, rfl, rfl, rfl, rfl, rfl, rfl, rfl, rfl, rfl, rfl, rfl, rfl, rfl, rfl, rfl, rfl, rfl, rfl, rfl, rfl, rfl, rfl, rfl, rfl, rfl, rfl, rfl, rfl, rfl, rfl, rfl, rfl, rfl, rfl, rfl, rfl, trivial⟩, hS⟩
   refine wp_draw (S := fun w1 => St w w1 [(g7, [.bool b, .slice a1 ((words x).length) ac1, .slice a2 1 ac2, .bool false, .slice a3 0 ac3, .slice a4 1 ac4]), (g4, [.bool false, .slice none 0 0, .slice none 0 0, .bool false, .slice none 0 0, .slice none 0 0]), (g2, [.bool b, .slice a1 ((words x).length) ac1, .slice a2 1 ac2, .bool false, .slice a3 0 ac3, .slice a4 1 ac4])] [(ro16, rowL b (x - b.toNat) (E / 32 + (words x).length + 2)), (a4, [1]), (a3, []), (a2, [1]), (a1, words x)] []) (by kernel_rfl) ?_
   replace hS := hS.drew
   refine any_tk hA 0 rfl rfl rfl rfl hP (hS.partD (.refl _) 0 rfl (.cons _ .slnil)) (fun w1 hS => d_move rfl) ?_
   intro a hA
   refine any_tk hA 1 rfl rfl rfl rfl hP (hS.partD (.refl _) 0 rfl (.cons _ .slnil)) (fun w1 hS => d_move rfl) ?_
   intro a hA
   refine any_tk (v := .int .i64 (((k / 32 : Nat) : Int))) hA 2 rfl rfl rfl rfl hP (hS.partD (.refl _) 0 rfl (.cons _ .slnil)) (fun w1 hS => d_bin rfl rfl (bin_quo (by omega))) ?_
   intro a hA
   have hi49 : k / 32 < l.length := by first | omega | (simp only [List.length_set]; omega)
   refine any_tk (v := .pointer (some ⟨g22, 0 + (k / 32), none⟩)) hA 3 rfl rfl rfl rfl hP (hS.partD (.refl _) 0 rfl (.cons _ .slnil)) (fun w1 hS => d_indexRow (k := k / 32) Try.underlying22 (by kernel_rfl) rfl rfl (by omega) rfl (by omega)) ?_
   intro a hA
   refine any_tk hA 5 rfl rfl rfl rfl hP (hS.partD (.refl _) 0 rfl (.cons _ .slnil)) (fun w1 hS => d_move rfl) ?_
   intro a hA
   refine any_tk hA 6 rfl rfl rfl rfl hP (hS.partD (.refl _) 0 rfl (.cons _ .slnil)) (fun w1 hS => d_move rfl) ?_
   intro a hA
   refine any_tk hA 7 rfl rfl rfl rfl hP (hS.partD (.refl _) 0 rfl (.cons _ .slnil)) (fun w1 hS => d_move rfl) ?_
   intro a hA
   refine any_tk (v := .int .i64 (((S + k : Nat) : Int))) hA 8 rfl rfl rfl rfl hP (hS.partD (.refl _) 0 rfl (.cons _ .slnil)) (fun w1 hS => d_bin rfl rfl (fun w => (bin_add (i64In (by omega) (by omega)) w).trans (by rw [show (((S : Nat) : Int) + ((k : Nat) : Int) : Int) = ((S + k : Nat) : Int) from by omega]))) ?_
   intro a hA
   refine any_tk hA 10 rfl rfl rfl rfl hP (hS.partD (.refl _) 0 rfl (.cons _ .slnil)) (fun w1 hS => d_move rfl) ?_
   intro a hA
   refine any_tk (v := .int .i64 (((k % 32 : Nat) : Int))) hA 11 rfl rfl rfl rfl hP (hS.partD (.refl _) 0 rfl (.cons _ .slnil)) (fun w1 hS => d_bin rfl rfl (bin_rem (by omega))) ?_
   intro a hA
   refine any_many (rs := [4, 9]) (by kernel_rfl) (by simp) ⟨?_, ?_, trivial⟩
   · refine op_do (v := .int .u32 (((l.getD (k / 32) 0 : Nat) : Int))) hA 4 rfl rfl rfl rfl (d_loadRow (hS.row 0 rfl).rd rfl hi49 BiP_is1_41 rfl) (hS.partD (.refl _) 0 rfl (.cons _ .slnil)) ?_
     intro a hA
     refine any_one (by kernel_rfl) (op_call hA 9 rfl rfl rfl rfl (enters_func  rfl rfl (fun w => by kernel_rfl)) ((show Calls Try.prog 44 _ _ (fun e w1 => e = .returned (.int .u32 ((tbit b (x - b.toNat) (S + k) : Nat) : Int)) ∧ Below _ _ w1) from (by have h8 := bitG_any rc17 (S + k) (hS.rd 0 rfl) (by omega); rw [rowL_bit (by omega)] at h8; exact h8))) ?_)
     rintro _ w51 ⟨rfl, hb50⟩
     have hS0 := hS
     replace hS := hS.call hb50
     refine ⟨_, rfl, (hS.partD (.refl _) 0 rfl (.cons _ .slnil)), ?_⟩
     intro a hA
     refine any_tk (v := .int .u32 (((tbit b (x - b.toNat) (S + k) * 2 ^ (k % 32) : Nat) : Int))) hA 12 rfl rfl rfl rfl hP (hS.partD (.refl _) 0 rfl (.cons _ .slnil)) (fun w1 hS => d_bin rfl rfl (bin_shl (tbit_le _ _ _) (by omega))) ?_
     intro a hA
     refine any_tk (v := .int .u32 (((l.getD (k / 32) 0 ||| tbit b (x - b.toNat) (S + k) * 2 ^ (k % 32) : Nat) : Int))) hA 13 rfl rfl rfl rfl hP (hS.partD (.refl _) 0 rfl (.cons _ .slnil)) (fun w1 hS => d_bin rfl rfl (bin_or (Dig.getD hdig9 _) (tb_lt _ _ _ (by omega)))) ?_
     intro a hA
     have hi55 : k / 32 < l.length := by first | omega | (simp only [List.length_set]; omega)
     refine any_tk (v := .pointer (some ⟨g22, 0 + (k / 32), none⟩)) hA 14 rfl rfl rfl rfl hP (hS.partD (.refl _) 0 rfl (.cons _ .slnil)) (fun w1 hS => d_indexRow (k := k / 32) Try.underlying22 (by kernel_rfl) rfl rfl (by omega) rfl (by omega)) ?_
     intro a hA
     refine any_one (by kernel_rfl) (op_row (us' := l.set (k / 32) (l.getD (k / 32) 0 ||| tbit b (x - b.toNat) (S + k) * 2 ^ (k % 32))) hA hS 15 rfl rfl rfl (sets_row (d := l.getD (k / 32) 0 ||| tbit b (x - b.toNat) (S + k) * 2 ^ (k % 32)) (by kernel_rfl) rfl rfl hS 0 rfl hi55) 0 rfl (Nat.or_lt_two_pow (n := 32) (Dig.getD hdig9 _) (tb_lt _ _ _ (by omega))) rfl ?_)
     intro w56 hS
     refine ⟨(hS.partD (.refl _) 0 rfl (.cons _ .slnil)), ?_⟩
     refine any_end (by kernel_rfl) ?_
     refine hJ44 _ _ ⟨hA.keep _ ⟨rfl, rfl, rfl, rfl, rfl, rfl, rfl, rfl, rfl, rfl, rfl, rfl, rfl, rfl, rfl, rfl, rfl, rfl, rfl, rfl, rfl, rfl, rfl, rfl, rfl, rfl, rfl, rfl, rfl, rfl, rfl, rfl, rfl, rfl, rfl, rfl, rfl, rfl, rfl, rfl, rfl, rfl, rfl, rfl, rfl, rfl, rfl, trivial⟩, (St.pickRL hS ⟨⟨0, rfl⟩, ⟨⟨1, rfl⟩, ⟨⟨2, rfl⟩, ⟨⟨3, rfl⟩, ⟨⟨4, rfl⟩, trivial⟩⟩⟩⟩⟩ [0, 1, 2] rfl (by decide))⟩
   · refine op_call hA 9 rfl rfl rfl rfl (enters_func  rfl rfl (fun w => by kernel_rfl)) ((show Calls Try.prog 44 _ _ (fun e w1 => e = .returned (.int .u32 ((tbit b (x - b.toNat) (S + k) : Nat) : Int)) ∧ Below _ _ w1) from (by have h8 := bitG_any rc17 (S + k) (hS.rd 0 rfl) (by omega); rw [rowL_bit (by omega)] at h8; exact h8))) ?_
     rintro _ w58 ⟨rfl, hb57⟩
     have hS0 := hS
     replace hS := hS.call hb57
     refine ⟨_, rfl, (hS.partD (.refl _) 0 rfl (.cons _ .slnil)), ?_⟩
     intro a hA
     refine any_tk (v := .int .u32 (((tbit b (x - b.toNat) (S + k) * 2 ^ (k % 32) : Nat) : Int))) hA 12 rfl rfl rfl rfl hP (hS.partD (.refl _) 0 rfl (.cons _ .slnil)) (fun w1 hS => d_bin rfl rfl (bin_shl (tbit_le _ _ _) (by omega))) ?_
     intro a hA
     refine any_one (by kernel_rfl) (op_do (v := .int .u32 (((l.getD (k / 32) 0 : Nat) : Int))) hA 4 rfl rfl rfl rfl (d_loadRow (hS.row 0 rfl).rd rfl hi49 BiP_is1_41 rfl) (hS.partD (.refl _) 0 rfl (.cons _ .slnil)) ?_)
     intro a hA
     refine any_tk (v := .int .u32 (((l.getD (k / 32) 0 ||| tbit b (x - b.toNat) (S + k) * 2 ^ (k % 32) : Nat) : Int))) hA 13 rfl rfl rfl rfl hP (hS.partD (.refl _) 0 rfl (.cons _ .slnil)) (fun w1 hS => d_bin rfl rfl (bin_or (Dig.getD hdig9 _) (tb_lt _ _ _ (by omega)))) ?_
     intro a hA
     have hi62 : k / 32 < l.length := by first | omega | (simp only [List.length_set]; omega)
     refine any_tk (v := .pointer (some ⟨g22, 0 + (k / 32), none⟩)) hA 14 rfl rfl rfl rfl hP (hS.partD (.refl _) 0 rfl (.cons _ .slnil)) (fun w1 hS => d_indexRow (k := k / 32) Try.underlying22 (by kernel_rfl) rfl rfl (by omega) rfl (by omega)) ?_
     intro a hA
     refine any_one (by kernel_rfl) (op_row (us' := l.set (k / 32) (l.getD (k / 32) 0 ||| tbit b (x - b.toNat) (S + k) * 2 ^ (k % 32))) hA hS 15 rfl rfl rfl (sets_row (d := l.getD (k / 32) 0 ||| tbit b (x - b.toNat) (S + k) * 2 ^ (k % 32)) (by kernel_rfl) rfl rfl hS 0 rfl hi62) 0 rfl (Nat.or_lt_two_pow (n := 32) (Dig.getD hdig9 _) (tb_lt _ _ _ (by omega))) rfl ?_)
     intro w63 hS
     refine ⟨(hS.partD (.refl _) 0 rfl (.cons _ .slnil)), ?_⟩
     refine any_end (by kernel_rfl) ?_
     refine hJ44 _ _ ⟨hA.keep _ ⟨rfl, rfl, rfl, rfl, rfl, rfl, rfl, rfl, rfl, rfl, rfl, rfl, rfl, rfl, rfl, rfl, rfl, rfl, rfl, rfl, rfl, rfl, rfl, rfl, rfl, rfl, rfl, rfl, rfl, rfl, rfl, rfl, rfl, rfl, rfl, rfl, rfl, rfl, rfl, rfl, rfl, rfl, rfl, rfl, rfl, rfl, rfl, trivial⟩, (St.pickRL hS ⟨⟨0, rfl⟩, ⟨⟨1, rfl⟩, ⟨⟨2, rfl⟩, ⟨⟨3, rfl⟩, ⟨⟨4, rfl⟩, trivial⟩⟩⟩⟩⟩ [0, 1, 2] rfl (by decide))⟩
 · have hb31' := of_decide_eq_false hb31
   refine seq_do (v := .bool false) hA rfl rfl rfl (d_bin rfl rfl (fun w => (bin_lss w).trans (by rw [hb31]))) ?_
   intro a hA
   refine seq_end ?_
   refine hK30 _ _ ?_
   refine wp_cond_false (hA.ev rfl) ?_
   refine wp_exit ?_
   refine hK24 _ _ ?_
   refine wp_seq_k (fun K64 hK64 => ?_)
   refine wp_region_lit ?_
   refine seq_do hA rfl rfl rfl (d_move rfl) ?_
   intro a hA
   refine seq_call hA rfl rfl rfl (enters_func  rfl rfl (fun w => by kernel_rfl)) ((show Calls Try.prog 26 _ _ (AnsN _ (bigS false (val (l) + false.toNat))) from (by have h8 := rnumberF_any (u := l) (hS.row 0 rfl).dig (by omega) (by omega) (pads_last (n := (E - S) / 32 + 1) hpad9 (fld_pw (by omega))) (hS.row 0 rfl).sc; rw [hpad9.1] at h8; exact h8))) ?_
   rintro _ w68 ⟨p65_1, p65_c1, p65_2, p65_c2, p65_3, p65_c3, p65_4, p65_c4, rfl, hn66, hb67⟩
   replace hS := hS.subO [] (.cons _ .slnil)
   replace hS := hS.call hb67
   replace hS := hS.addR hn66.s1.rd
   replace hS := hS.addR hn66.s2.rd
   replace hS := hS.addR hn66.s3.rd
   replace hS := hS.addR hn66.s4.rd
   refine ⟨_, rfl, ?_⟩
   intro a hA
   refine seq_do (v := .agg #[.bool ((bigS false (val (l) + false.toNat)).1.b1), .slice p65_1 (((bigS false (val (l) + false.toNat)).1.t1).length) p65_c1, .slice p65_2 (((bigS false (val (l) + false.toNat)).1.q1).length) p65_c2, .bool ((bigS false (val (l) + false.toNat)).1.b2), .slice p65_3 (((bigS false (val (l) + false.toNat)).1.t2).length) p65_c3, .slice p65_4 (((bigS false (val (l) + false.toNat)).1.q2).length) p65_c4]) hA rfl rfl rfl (d_extract (vs := [.agg #[.bool ((bigS false (val (l) + false.toNat)).1.b1), .slice p65_1 (((bigS false (val (l) + false.toNat)).1.t1).length) p65_c1, .slice p65_2 (((bigS false (val (l) + false.toNat)).1.q1).length) p65_c2, .bool ((bigS false (val (l) + false.toNat)).1.b2), .slice p65_3 (((bigS false (val (l) + false.toNat)).1.t2).length) p65_c3, .slice p65_4 (((bigS false (val (l) + false.toNat)).1.q2).length) p65_c4], .int .i64 ((bigS false (val (l) + false.toNat)).2)]) rfl rfl) ?_
   intro a hA
   refine seq_do (v := .int .i64 ((bigS false (val (l) + false.toNat)).2)) hA rfl rfl rfl (d_extract (vs := [.agg #[.bool ((bigS false (val (l) + false.toNat)).1.b1), .slice p65_1 (((bigS false (val (l) + false.toNat)).1.t1).length) p65_c1, .slice p65_2 (((bigS false (val (l) + false.toNat)).1.q1).length) p65_c2, .bool ((bigS false (val (l) + false.toNat)).1.b2), .slice p65_3 (((bigS false (val (l) + false.toNat)).1.t2).length) p65_c3, .slice p65_4 (((bigS false (val (l) + false.toNat)).1.q2).length) p65_c4], .int .i64 ((bigS false (val (l) + false.toNat)).2)]) rfl rfl) ?_
   intro a hA
   refine seq_store (us := [.bool ((bigS false (val (l) + false.toNat)).1.b1), .slice p65_1 (((bigS false (val (l) + false.toNat)).1.t1).length) p65_c1, .slice p65_2 (((bigS false (val (l) + false.toNat)).1.q1).length) p65_c2, .bool ((bigS false (val (l) + false.toNat)).1.b2), .slice p65_3 (((bigS false (val (l) + false.toNat)).1.t2).length) p65_c3, .slice p65_4 (((bigS false (val (l) + false.toNat)).1.q2).length) p65_c4]) hA hS rfl rfl (sets_store rfl rfl rfl (by kernel_rfl) hS 1 rfl rfl rfl) 1 rfl rfl rfl rfl ?_
   intro w69 hS
   refine seq_do hA rfl rfl rfl (d_assign rfl) ?_
   intro a hA
   refine seq_end ?_
   refine hK64 _ _ ?_
   refine wp_ret ?_
   refine hret _ _ ?_
   refine ends (v := .tuple #[.agg #[.bool ((bigS false (val (l) + false.toNat)).1.b1), .slice p65_1 (((bigS false (val (l) + false.toNat)).1.t1).length) p65_c1, .slice p65_2 (((bigS false (val (l) + false.toNat)).1.q1).length) p65_c2, .bool ((bigS false (val (l) + false.toNat)).1.b2), .slice p65_3 (((bigS false (val (l) + false.toNat)).1.t2).length) p65_c3, .slice p65_4 (((bigS false (val (l) + false.toNat)).1.q2).length) p65_c4], .int .i64 ((bigS false (val (l) + false.toNat)).2)]) hA rfl (.cons (res_cell hS BiP_isS_26 rfl 1 rfl (cs := [.bool ((bigS false (val (l) + false.toNat)).1.b1), .slice p65_1 (((bigS false (val (l) + false.toNat)).1.t1).length) p65_c1, .slice p65_2 (((bigS false (val (l) + false.toNat)).1.q1).length) p65_c2, .bool ((bigS false (val (l) + false.toNat)).1.b2), .slice p65_3 (((bigS false (val (l) + false.toNat)).1.t2).length) p65_c3, .slice p65_4 (((bigS false (val (l) + false.toNat)).1.q2).length) p65_c4]) rfl rfl) (.cons (res_tmp rfl) .nil)) rfl ?_
   have hk9 : k = E - S := by omega
   subst hk9
   rw [fieldQ_ok hw h1 h2, ← bigS_pos (fld_len (by omega)), show fld b (x - b.toNat) S (E - S) = fld b (x - b.toNat) S (E - S) + false.toNat from rfl, ← hpad9.val_eq hdig9 (fld_pw (by omega))]
   exact ⟨p65_1, p65_c1, p65_2, p65_c2, p65_3, p65_c3, p65_4, p65_c4, rfl, ⟨⟨(hS.rd 3 rfl), hn66.s1.nil, hn66.s1.cap⟩, ⟨(hS.rd 2 rfl), hn66.s2.nil, hn66.s2.cap⟩, ⟨(hS.rd 1 rfl), hn66.s3.nil, hn66.s3.cap⟩, ⟨(hS.rd 0 rfl), hn66.s4.nil, hn66.s4.cap⟩⟩, hS.bel⟩
end Go.Proofs.Ytfhpeeljjcphpaa
namespace Go.Proofs.Ytfhpeeljjcphpaa
open Go.RowKit
set_option linter.unusedVariables false
set_option linter.unusedSimpArgs false
set_option maxRecDepth 100000
theorem BiR_isS_26 : IsS Try.prog 26 6 := ⟨⟨_, Try.underlying26⟩, by kernel_rfl⟩
theorem fieldPQ_any {w : World} {q : Q6} {a1 a2 a3 a4 : Option Addr} {ac1 ac2 ac3 ac4 : Nat} (ha : Nm w q a1 ac1 a2 ac2 a3 ac3 a4 ac4) (hl : LenQ q) {s e : Int} : Calls Try.prog 20 #[numV q a1 ac1 a2 ac2 a3 ac3 a4 ac4, .int .i64 s, .int .i64 e] w (AnsN w (fieldQ q s e)) := by
  rcases want1_cases q with ⟨hw, h1⟩ | ⟨hw, _⟩
  · obtain ⟨b, x, rfl, hx, hb⟩ := wholeOf ha h1
    by_cases hs : s < 0 ∨ e < s ∨ 16384 < e
    · exact fieldPA_any ha hl hw hx hb hs
    · obtain ⟨S, rfl⟩ := Int.eq_ofNat_of_zero_le (show 0 ≤ s by omega)
      obtain ⟨E, rfl⟩ := Int.eq_ofNat_of_zero_le (show 0 ≤ e by omega)
      exact fieldPW_any ha hl (by omega) (by omega) hw hx hb
  · exact fieldPE_any ha hl hw
theorem fieldRQ_any {w : World} {q : Q6} {a1 a2 a3 a4 : Option Addr} {ac1 ac2 ac3 ac4 : Nat} (ha : Nm w q a1 ac1 a2 ac2 a3 ac3 a4 ac4) (hl : LenQ q) {s e : Int} : Calls Try.prog 21 #[numV q a1 ac1 a2 ac2 a3 ac3 a4 ac4, .int .i64 s, .int .i64 e] w (AnsN w (fieldQ q s e)) := by
  rcases want1_cases q with ⟨hw, h1⟩ | ⟨hw, _⟩
  · obtain ⟨b, x, rfl, hx, hb⟩ := wholeOf ha h1
    by_cases hs : s < 0 ∨ e < s ∨ 16384 < e
    · exact fieldRA_any ha hl hw hx hb hs
    · obtain ⟨S, rfl⟩ := Int.eq_ofNat_of_zero_le (show 0 ≤ s by omega)
      obtain ⟨E, rfl⟩ := Int.eq_ofNat_of_zero_le (show 0 ≤ e by omega)
      exact fieldRW_any ha hl (by omega) (by omega) hw hx hb
  · exact fieldRE_any ha hl hw
theorem lenQ_field (q : Q6) (s e : Int) : LenQ (fieldQ q s e).1 := by
  unfold fieldQ
  split
  · split
    · exact lenQ_zero
    · refine lenQ_whole (fld_len ?_)
      omega
  · exact lenQ_zero
theorem bitsFields_any {w : World} {q : Q6} {a1 a2 a3 a4 : Option Addr} {ac1 ac2 ac3 ac4 : Nat} (ha : Nm w q a1 ac1 a2 ac2 a3 ac3 a4 ac4) (hl : LenQ q) {s e : Int} (s0 : -9223372036854775808 ≤ s) (s1 : s ≤ 9223372036854775807) (e0 : -9223372036854775808 ≤ e) (e1 : e ≤ 9223372036854775807) : Calls Try.prog 5 #[numV q a1 ac1 a2 ac2 a3 ac3 a4 ac4, .int .i64 s, .int .i64 e] w fun e w' => e = .returned (.bool true) ∧ Below w.heap.size w w' := by
 have hS : St w w [] [(a4, q.q2), (a3, q.t2), (a2, q.q1), (a1, q.t1)] [] := ((((St.start w).addR ha.s1.rd).addR ha.s2.rd).addR ha.s3.rd).addR ha.s4.rd
 refine walk_of (l := [(0, .agg #[.bool q.b1, .slice a1 q.t1.length ac1, .slice a2 q.q1.length ac2, .bool q.b2, .slice a3 q.t2.length ac3, .slice a4 q.q2.length ac4]), (1, .int .i64 s), (2, .int .i64 e)]) Try.func5 rfl Try.ntmps5 rfl rfl ?_
 intro Q hret hnorm hP a hA
 refine wp_seq_k (fun K1 hK1 => ?_)
 refine wp_region_lit ?_
 refine seq_new hA hS rfl rfl rfl (fun g => .pointer (some ⟨g, 0, none⟩)) (d_box rfl rfl) rfl ?_
 intro g2 w3 hS a hA
 refine seq_do hA rfl rfl rfl (d_assign rfl) ?_
 intro a hA
 refine seq_end ?_
 refine hK1 _ _ ?_
 refine wp_seq_k (fun K4 hK4 => ?_)
 refine wp_region_lit ?_
 refine seq_do hA rfl rfl rfl (d_loadS hS BiR_isS_26 rfl 0 rfl (cs := [.bool q.b1, .slice a1 q.t1.length ac1, .slice a2 q.q1.length ac2, .bool q.b2, .slice a3 q.t2.length ac3, .slice a4 q.q2.length ac4]) rfl rfl) ?_
 intro a hA
 refine seq_do hA rfl rfl rfl (d_move rfl) ?_
 intro a hA
 refine seq_do hA rfl rfl rfl (d_move rfl) ?_
 intro a hA
 refine seq_call hA rfl rfl rfl (enters_func  rfl rfl (fun w => by kernel_rfl)) (fieldPQ_any (show Nm _ q a1 ac1 a2 ac2 a3 ac3 a4 ac4 from ⟨⟨(hS.rd 3 rfl), ha.s1.nil, ha.s1.cap⟩, ⟨(hS.rd 2 rfl), ha.s2.nil, ha.s2.cap⟩, ⟨(hS.rd 1 rfl), ha.s3.nil, ha.s3.cap⟩, ⟨(hS.rd 0 rfl), ha.s4.nil, ha.s4.cap⟩⟩) hl) ?_
 rintro _ w8 ⟨p5_1, p5_c1, p5_2, p5_c2, p5_3, p5_c3, p5_4, p5_c4, rfl, hn6, hb7⟩
 replace hS := hS.call hb7
 replace hS := hS.addR hn6.s1.rd
 replace hS := hS.addR hn6.s2.rd
 replace hS := hS.addR hn6.s3.rd
 replace hS := hS.addR hn6.s4.rd
 refine ⟨_, rfl, ?_⟩
 intro a hA
 refine seq_do hA rfl rfl rfl (d_move rfl) ?_
 intro a hA
 refine seq_do (v := .agg #[.bool ((fieldQ q s e).1.b1), .slice p5_1 (((fieldQ q s e).1.t1).length) p5_c1, .slice p5_2 (((fieldQ q s e).1.q1).length) p5_c2, .bool ((fieldQ q s e).1.b2), .slice p5_3 (((fieldQ q s e).1.t2).length) p5_c3, .slice p5_4 (((fieldQ q s e).1.q2).length) p5_c4]) hA rfl rfl rfl (d_extract (vs := [.agg #[.bool ((fieldQ q s e).1.b1), .slice p5_1 (((fieldQ q s e).1.t1).length) p5_c1, .slice p5_2 (((fieldQ q s e).1.q1).length) p5_c2, .bool ((fieldQ q s e).1.b2), .slice p5_3 (((fieldQ q s e).1.t2).length) p5_c3, .slice p5_4 (((fieldQ q s e).1.q2).length) p5_c4], .int .i64 ((fieldQ q s e).2)]) rfl rfl) ?_
 intro a hA
 refine seq_do (v := .int .i64 ((fieldQ q s e).2)) hA rfl rfl rfl (d_extract (vs := [.agg #[.bool ((fieldQ q s e).1.b1), .slice p5_1 (((fieldQ q s e).1.t1).length) p5_c1, .slice p5_2 (((fieldQ q s e).1.q1).length) p5_c2, .bool ((fieldQ q s e).1.b2), .slice p5_3 (((fieldQ q s e).1.t2).length) p5_c3, .slice p5_4 (((fieldQ q s e).1.q2).length) p5_c4], .int .i64 ((fieldQ q s e).2)]) rfl rfl) ?_
 intro a hA
 refine seq_new (vs := [.bool false, .slice none 0 0, .slice none 0 0, .bool false, .slice none 0 0, .slice none 0 0]) (t := 26) hA hS rfl rfl rfl (fun g => .pointer (some ⟨g, 0, none⟩)) (d_alloc (z := .agg #[.bool false, .slice none 0 0, .slice none 0 0, .bool false, .slice none 0 0, .slice none 0 0]) (by kernel_rfl) rfl) rfl ?_
 intro g9 w10 hS a hA
 refine seq_store (us := [.bool ((fieldQ q s e).1.b1), .slice p5_1 (((fieldQ q s e).1.t1).length) p5_c1, .slice p5_2 (((fieldQ q s e).1.q1).length) p5_c2, .bool ((fieldQ q s e).1.b2), .slice p5_3 (((fieldQ q s e).1.t2).length) p5_c3, .slice p5_4 (((fieldQ q s e).1.q2).length) p5_c4]) hA hS rfl rfl (sets_store rfl rfl rfl (by kernel_rfl) hS 0 rfl rfl rfl) 0 rfl rfl rfl rfl ?_
 intro w11 hS
 refine seq_do hA rfl rfl rfl (d_assign rfl) ?_
 intro a hA
 refine seq_end ?_
 refine hK4 _ _ ?_
 refine wp_seq_k (fun K12 hK12 => ?_)
 refine wp_region_lit ?_
 refine seq_do hA rfl rfl rfl (d_loadS hS BiR_isS_26 rfl 1 rfl (cs := [.bool q.b1, .slice a1 q.t1.length ac1, .slice a2 q.q1.length ac2, .bool q.b2, .slice a3 q.t2.length ac3, .slice a4 q.q2.length ac4]) rfl rfl) ?_
 intro a hA
 refine seq_do hA rfl rfl rfl (d_move rfl) ?_
 intro a hA
 refine seq_do hA rfl rfl rfl (d_move rfl) ?_
 intro a hA
 refine seq_call hA rfl rfl rfl (enters_func  rfl rfl (fun w => by kernel_rfl)) (fieldRQ_any (show Nm _ q a1 ac1 a2 ac2 a3 ac3 a4 ac4 from ⟨⟨(hS.rd 7 rfl), ha.s1.nil, ha.s1.cap⟩, ⟨(hS.rd 6 rfl), ha.s2.nil, ha.s2.cap⟩, ⟨(hS.rd 5 rfl), ha.s3.nil, ha.s3.cap⟩, ⟨(hS.rd 4 rfl), ha.s4.nil, ha.s4.cap⟩⟩) hl) ?_
 rintro _ w16 ⟨p13_1, p13_c1, p13_2, p13_c2, p13_3, p13_c3, p13_4, p13_c4, rfl, hn14, hb15⟩
 replace hS := hS.call hb15
 replace hS := hS.addR hn14.s1.rd
 replace hS := hS.addR hn14.s2.rd
 replace hS := hS.addR hn14.s3.rd
 replace hS := hS.addR hn14.s4.rd
 refine ⟨_, rfl, ?_⟩
 intro a hA
 refine seq_do hA rfl rfl rfl (d_move rfl) ?_
 intro a hA
 refine seq_do (v := .agg #[.bool ((fieldQ q s e).1.b1), .slice p13_1 (((fieldQ q s e).1.t1).length) p13_c1, .slice p13_2 (((fieldQ q s e).1.q1).length) p13_c2, .bool ((fieldQ q s e).1.b2), .slice p13_3 (((fieldQ q s e).1.t2).length) p13_c3, .slice p13_4 (((fieldQ q s e).1.q2).length) p13_c4]) hA rfl rfl rfl (d_extract (vs := [.agg #[.bool ((fieldQ q s e).1.b1), .slice p13_1 (((fieldQ q s e).1.t1).length) p13_c1, .slice p13_2 (((fieldQ q s e).1.q1).length) p13_c2, .bool ((fieldQ q s e).1.b2), .slice p13_3 (((fieldQ q s e).1.t2).length) p13_c3, .slice p13_4 (((fieldQ q s e).1.q2).length) p13_c4], .int .i64 ((fieldQ q s e).2)]) rfl rfl) ?_
 intro a hA
 refine seq_do (v := .int .i64 ((fieldQ q s e).2)) hA rfl rfl rfl (d_extract (vs := [.agg #[.bool ((fieldQ q s e).1.b1), .slice p13_1 (((fieldQ q s e).1.t1).length) p13_c1, .slice p13_2 (((fieldQ q s e).1.q1).length) p13_c2, .bool ((fieldQ q s e).1.b2), .slice p13_3 (((fieldQ q s e).1.t2).length) p13_c3, .slice p13_4 (((fieldQ q s e).1.q2).length) p13_c4], .int .i64 ((fieldQ q s e).2)]) rfl rfl) ?_
 intro a hA
 refine seq_new (vs := [.bool false, .slice none 0 0, .slice none 0 0, .bool false, .slice none 0 0, .slice none 0 0]) (t := 26) hA hS rfl rfl rfl (fun g => .pointer (some ⟨g, 0, none⟩)) (d_alloc (z := .agg #[.bool false, .slice none 0 0, .slice none 0 0, .bool false, .slice none 0 0, .slice none 0 0]) (by kernel_rfl) rfl) rfl ?_
 intro g17 w18 hS a hA
 refine seq_store (us := [.bool ((fieldQ q s e).1.b1), .slice p13_1 (((fieldQ q s e).1.t1).length) p13_c1, .slice p13_2 (((fieldQ q s e).1.q1).length) p13_c2, .bool ((fieldQ q s e).1.b2), .slice p13_3 (((fieldQ q s e).1.t2).length) p13_c3, .slice p13_4 (((fieldQ q s e).1.q2).length) p13_c4]) hA hS rfl rfl (sets_store rfl rfl rfl (by kernel_rfl) hS 0 rfl rfl rfl) 0 rfl rfl rfl rfl ?_
 intro w19 hS
 refine seq_do hA rfl rfl rfl (d_assign rfl) ?_
 intro a hA
 refine seq_end ?_
 refine hK12 _ _ ?_
 refine wp_seq_k (fun K20 hK20 => ?_)
 refine wp_region_lit ?_
 refine seq_call hA rfl rfl rfl (enters_func  rfl rfl (fun w => by kernel_rfl)) (awake4_any) ?_
 rintro _ w22 ⟨rfl, hb21⟩
 replace hS := hS.call hb21
 refine ⟨_, rfl, ?_⟩
 intro a hA
 refine seq_do hA rfl rfl rfl (d_move rfl) ?_
 intro a hA
 refine seq_do hA rfl rfl rfl (d_loadS hS BiR_isS_26 rfl 1 rfl (cs := [.bool ((fieldQ q s e).1.b1), .slice p5_1 (((fieldQ q s e).1.t1).length) p5_c1, .slice p5_2 (((fieldQ q s e).1.q1).length) p5_c2, .bool ((fieldQ q s e).1.b2), .slice p5_3 (((fieldQ q s e).1.t2).length) p5_c3, .slice p5_4 (((fieldQ q s e).1.q2).length) p5_c4]) rfl rfl) ?_
 intro a hA
 refine seq_do hA rfl rfl rfl (d_loadS hS BiR_isS_26 rfl 0 rfl (cs := [.bool ((fieldQ q s e).1.b1), .slice p13_1 (((fieldQ q s e).1.t1).length) p13_c1, .slice p13_2 (((fieldQ q s e).1.q1).length) p13_c2, .bool ((fieldQ q s e).1.b2), .slice p13_3 (((fieldQ q s e).1.t2).length) p13_c3, .slice p13_4 (((fieldQ q s e).1.q2).length) p13_c4]) rfl rfl) ?_
 intro a hA
 refine seq_call hA rfl rfl rfl (enters_func  rfl rfl (fun w => by kernel_rfl)) (alike_any (show Nm _ _ p5_1 p5_c1 p5_2 p5_c2 p5_3 p5_c3 p5_4 p5_c4 from ⟨⟨(hS.rd 7 rfl), hn6.s1.nil, hn6.s1.cap⟩, ⟨(hS.rd 6 rfl), hn6.s2.nil, hn6.s2.cap⟩, ⟨(hS.rd 5 rfl), hn6.s3.nil, hn6.s3.cap⟩, ⟨(hS.rd 4 rfl), hn6.s4.nil, hn6.s4.cap⟩⟩) (lenQ_field q s e) (show Nm _ _ p13_1 p13_c1 p13_2 p13_c2 p13_3 p13_c3 p13_4 p13_c4 from ⟨⟨(hS.rd 3 rfl), hn14.s1.nil, hn14.s1.cap⟩, ⟨(hS.rd 2 rfl), hn14.s2.nil, hn14.s2.cap⟩, ⟨(hS.rd 1 rfl), hn14.s3.nil, hn14.s3.cap⟩, ⟨(hS.rd 0 rfl), hn14.s4.nil, hn14.s4.cap⟩⟩)) ?_
 rintro _ w24 ⟨rfl, hb23⟩
 replace hS := hS.call hb23
 refine ⟨_, rfl, ?_⟩
 intro a hA
 refine seq_do (v := .bool true) hA rfl rfl rfl (d_pick rfl rfl rfl rfl) ?_
 intro a hA
 refine seq_do hA rfl rfl rfl (d_move rfl) ?_
 intro a hA
 refine seq_do hA rfl rfl rfl (d_move rfl) ?_
 intro a hA
 refine seq_do hA rfl rfl rfl (d_move rfl) ?_
 intro a hA
 refine seq_do (v := .bool true) hA rfl rfl rfl (d_bin rfl rfl (fun w => (bin_eql w).trans (by rw [show (((fieldQ q s e).2 == (fieldQ q s e).2)) = true from beq_self_eq_true _]))) ?_
 intro a hA
 refine seq_do (v := .bool true) hA rfl rfl rfl (d_pick rfl rfl rfl rfl) ?_
 intro a hA
 refine seq_do hA rfl rfl rfl (d_assign rfl) ?_
 intro a hA
 refine seq_end ?_
 refine hK20 _ _ ?_
 refine wp_ret ?_
 refine hret _ _ ?_
 refine ends (v := .bool true) hA rfl (.cons (res_tmp rfl) .nil) rfl ?_
 exact ⟨rfl, hS.bel⟩
end Go.Proofs.Ytfhpeeljjcphpaa
namespace Go.Proofs.Ytfhpeeljjcphpaa
open Go.ChangeShapes Go.WideShapes Go.ChangeAt Go.RowKit Go.Joins Go.Deep
set_option linter.unusedVariables false
set_option linter.unusedSimpArgs false
set_option maxRecDepth 100000

section
variable {H : Type} {enc : TypeId × Value → H} {W : World}
theorem trod_bool {fuel : Nat} {v : Value} {x : DataW H × List MemPlace} (h : DataW.trod enc Try.prog W 0 (fun _ => true) true fuel 4 [v] = some x) : ∃ b, v = .bool b := by
  obtain ⟨b, h, _⟩ := DataW.trod_bool Try.underlying4 h
  exact ⟨b, by simpa using h⟩
theorem trod_words {fuel : Nat} {v : Value} {x : DataW H × List MemPlace} (h : DataW.trod enc Try.prog W 0 (fun _ => true) true fuel 22 [v] = some x) : ∃ ao c l, v = .slice ao l.length c ∧ Arg W ao c l := by
  rcases open_ints Try.underlying22 Try.underlying41 (by kernel_rfl) h with ⟨hcs, _⟩ | ⟨x, l, c, zs, hcs, _, hl, hm, hz, hx, hcell, hwz⟩
  · cases hcs
    exact ⟨none, 0, [], rfl, arg_nil W⟩
  · cases hcs
    obtain ⟨us, e, ha⟩ := arg_row hl hm (by simpa using hz) hcell hwz
    subst e
    exact ⟨_, _, us, rfl, ha⟩
theorem trod_rat {fuel : Nat} {v0 v1 v2 : Value} {x : DataW H × List MemPlace} (h : DataW.trod enc Try.prog W 0 (fun _ => true) true fuel 24 [v0, v1, v2] = some x) : ∃ b o1 c1 l1 o2 c2 l2, v0 = .bool b ∧ v1 = .slice o1 l1.length c1 ∧ v2 = .slice o2 l2.length c2 ∧ Arg W o1 c1 l1 ∧ Arg W o2 c2 l2 := by
  obtain ⟨y0, y1, y2, n, _, _, h0, h1, h2⟩ := trod_struct3 Try.underlying24 h
  have e0 : Try.prog.cellsOf 4 = 1 := by kernel_rfl
  have e1 : Try.prog.cellsOf 22 = 1 := by kernel_rfl
  simp only [e0, e1, List.drop_zero, List.take_succ_cons, List.take_zero, List.drop_succ_cons] at h0 h1 h2
  obtain ⟨b, rfl⟩ := trod_bool h0
  obtain ⟨o1, c1, l1, rfl, a1⟩ := trod_words h1
  obtain ⟨o2, c2, l2, rfl, a2⟩ := trod_words h2
  exact ⟨b, o1, c1, l1, o2, c2, l2, rfl, rfl, rfl, a1, a2⟩
theorem open_num {base : Nat} {v : Value} {d : DataW H} {p : List MemPlace} (hv : Value.okWide Try.prog W .any base 26 v) (h : DataW.Trod enc Try.prog W 0 (fun _ => true) true 26 v d p) :
    ∃ q o1 c1 o2 c2 o3 c3 o4 c4, v = numV q o1 c1 o2 c2 o3 c3 o4 c4 ∧ Nm W q o1 c1 o2 c2 o3 c3 o4 c4 ∧ LenQ q := by
  obtain ⟨cs, rfl, hsz⟩ := okWide_struct Try.underlying26 hv
  rw [show Try.prog.cellsOf 26 = 6 from by kernel_rfl] at hsz
  obtain ⟨cs⟩ := cs
  match cs, hsz with
  | [v0, v1, v2, v3, v4, v5], _ =>
    obtain ⟨fuel, hf⟩ := h
    obtain ⟨y0, y1, n, _, _, h0, h1⟩ := trod_struct2 Try.underlying26 hf
    have e : Try.prog.cellsOf 24 = 3 := by kernel_rfl
    simp only [Value.cells, e, List.drop_zero, List.take_succ_cons, List.take_zero, List.drop_succ_cons] at h0 h1
    obtain ⟨b1, o1, c1, l1, o2, c2, l2, rfl, rfl, rfl, a1, a2⟩ := trod_rat h0
    obtain ⟨b2, o3, c3, l3, o4, c4, l4, rfl, rfl, rfl, a3, a4⟩ := trod_rat h1
    exact ⟨⟨b1, l1, l2, b2, l3, l4⟩, o1, c1, o2, c2, o3, c3, o4, c4, rfl, ⟨⟨a1.rd, a1.nil, a1.caps⟩, ⟨a2.rd, a2.nil, a2.caps⟩, ⟨a3.rd, a3.nil, a3.caps⟩, ⟨a4.rd, a4.nil, a4.caps⟩⟩, ⟨a1.len, a2.len, a3.len, a4.len⟩⟩
end
end Go.Proofs.Ytfhpeeljjcphpaa
