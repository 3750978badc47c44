/- Walks of Alloc. -/
import Derived.Test.YtcigofjajphmjaaHbA
namespace Go.Proofs.Ytcigofjajphmjaa
open Go.RowKit
set_option linter.unusedVariables false
set_option linter.unusedSimpArgs false
set_option maxRecDepth 100000
theorem HbB_is1_3 : Is1 Try.prog 3 := ⟨⟨_, Try.underlying3, rfl⟩, by kernel_rfl⟩
theorem HbB_is1_68 : Is1 Try.prog 68 := ⟨⟨_, Try.underlying68, rfl⟩, by kernel_rfl⟩
theorem HbB_fld_70_1 : FieldAt Try.prog 70 1 1 := ⟨_, _, Try.underlying70, rfl, rfl, by kernel_rfl⟩
theorem HbB_fld_73_2 : FieldAt Try.prog 73 2 2 := ⟨_, _, Try.underlying73, rfl, rfl, by kernel_rfl⟩
theorem HbB_fld_73_3 : FieldAt Try.prog 73 3 4 := ⟨_, _, Try.underlying73, rfl, rfl, by kernel_rfl⟩
theorem HbB_fld_96_0 : FieldAt Try.prog 96 0 0 := ⟨_, _, Try.underlying96, rfl, rfl, by kernel_rfl⟩
theorem HbB_fld_96_1 : FieldAt Try.prog 96 1 1 := ⟨_, _, Try.underlying96, rfl, rfl, by kernel_rfl⟩
theorem HbB_isS_96 : IsS Try.prog 96 2 := ⟨⟨_, Try.underlying96⟩, by kernel_rfl⟩
theorem large_any {w : World} {n : Int} : Calls Try.prog 44 #[.int .i64 n] w fun e w' => e = .returned (.bool (decide (16 < n))) ∧ Below w.heap.size w w' := by
 have hM : Mg w w ([]) := Mg.start w
 refine walk_of (l := [(0, .int .i64 n)]) Try.func44 rfl Try.ntmps44 rfl rfl ?_
 intro Q hret hnorm hP a hA
 refine wp_seq_k (fun K1 hK1 => ?_)
 refine wp_region_lit ?_
 refine seq_do hA rfl rfl rfl (does_assign rfl) ?_
 intro a hA
 refine seq_end ?_
 refine hK1 _ _ ?_
 refine wp_seq_k (fun K2 hK2 => ?_)
 refine wp_region_lit ?_
 refine seq_do hA rfl rfl rfl (does_move rfl) ?_
 intro a hA
 refine seq_do (v := .bool (decide (16 < n))) hA rfl rfl rfl (does_bin rfl rfl bin_gtr) ?_
 intro a hA
 refine seq_do hA rfl rfl rfl (does_assign rfl) ?_
 intro a hA
 refine seq_end ?_
 refine hK2 _ _ ?_
 refine wp_ret ?_
 refine hret _ _ ?_
 refine ends (v := .bool (decide (16 < n))) hA rfl (.cons (res_tmp rfl) .nil) rfl ?_
 exact ⟨rfl, hM.bel⟩
theorem areaS_any {w : World} {h : Nat} {n : Int} (hl : decide (16 < n) = false) : Calls Try.prog 28 #[.pointer (some ⟨h, 0, none⟩), .int .i64 n] w fun e w' => e = .returned (.pointer (some ⟨h, 2, none⟩)) ∧ Below w.heap.size w w' := by
 have hM : Mg w w ([]) := Mg.start w
 refine walk_of (l := [(0, .pointer (some ⟨h, 0, none⟩)), (1, .int .i64 n)]) Try.func28 rfl Try.ntmps28 rfl rfl ?_
 intro Q hret hnorm hP a hA
 refine wp_seq_k (fun K1 hK1 => ?_)
 refine wp_region_lit ?_
 refine seq_do hA rfl rfl rfl (does_assign rfl) ?_
 intro a hA
 refine seq_end ?_
 refine hK1 _ _ ?_
 refine wp_seq_k (fun K2 hK2 => ?_)
 refine wp_seq_k (fun K3 hK3 => ?_)
 refine wp_region_lit ?_
 refine seq_do hA rfl rfl rfl (does_move rfl) ?_
 intro a hA
 refine seq_call hA rfl rfl rfl (enters_func rfl rfl (fun w => by kernel_rfl)) ((hl ▸ large_any)) ?_
 rintro _ w5 ⟨rfl, hb4⟩
 replace hM := hM.call hb4
 refine ⟨_, rfl, ?_⟩
 intro a hA
 refine seq_end ?_
 refine hK3 _ _ ?_
 refine wp_cond_false (hA.ev rfl) ?_
 refine wp_skip ?_
 refine hK2 _ _ ?_
 refine wp_seq_k (fun K6 hK6 => ?_)
 refine wp_region_lit ?_
 refine seq_do hA rfl rfl rfl (does_move rfl) ?_
 intro a hA
 refine seq_do hA rfl rfl rfl (does_nilq rfl) ?_
 intro a hA
 refine seq_do (v := .pointer (some ⟨h, 2, none⟩)) hA rfl rfl rfl (does_field HbB_fld_73_2 rfl rfl) ?_
 intro a hA
 refine seq_do hA rfl rfl rfl (does_assign rfl) ?_
 intro a hA
 refine seq_end ?_
 refine hK6 _ _ ?_
 refine wp_ret ?_
 refine hret _ _ ?_
 refine ends (v := .pointer (some ⟨h, 2, none⟩)) hA rfl (.cons (res_tmp rfl) .nil) rfl ?_
 exact ⟨rfl, hM.bel⟩
theorem areaL_any {w : World} {h : Nat} {n : Int} (hl : decide (16 < n) = true) : Calls Try.prog 28 #[.pointer (some ⟨h, 0, none⟩), .int .i64 n] w fun e w' => e = .returned (.pointer (some ⟨h, 4, none⟩)) ∧ Below w.heap.size w w' := by
 have hM : Mg w w ([]) := Mg.start w
 refine walk_of (l := [(0, .pointer (some ⟨h, 0, none⟩)), (1, .int .i64 n)]) Try.func28 rfl Try.ntmps28 rfl rfl ?_
 intro Q hret hnorm hP a hA
 refine wp_seq_k (fun K1 hK1 => ?_)
 refine wp_region_lit ?_
 refine seq_do hA rfl rfl rfl (does_assign rfl) ?_
 intro a hA
 refine seq_end ?_
 refine hK1 _ _ ?_
 refine wp_seq_k (fun K2 hK2 => ?_)
 refine wp_seq_k (fun K3 hK3 => ?_)
 refine wp_region_lit ?_
 refine seq_do hA rfl rfl rfl (does_move rfl) ?_
 intro a hA
 refine seq_call hA rfl rfl rfl (enters_func rfl rfl (fun w => by kernel_rfl)) ((hl ▸ large_any)) ?_
 rintro _ w5 ⟨rfl, hb4⟩
 replace hM := hM.call hb4
 refine ⟨_, rfl, ?_⟩
 intro a hA
 refine seq_end ?_
 refine hK3 _ _ ?_
 refine wp_cond_true (hA.ev rfl) ?_
 refine wp_seq_k (fun K6 hK6 => ?_)
 refine wp_region_lit ?_
 refine seq_do hA rfl rfl rfl (does_move rfl) ?_
 intro a hA
 refine seq_do hA rfl rfl rfl (does_nilq rfl) ?_
 intro a hA
 refine seq_do (v := .pointer (some ⟨h, 4, none⟩)) hA rfl rfl rfl (does_field HbB_fld_73_3 rfl rfl) ?_
 intro a hA
 refine seq_do hA rfl rfl rfl (does_assign rfl) ?_
 intro a hA
 refine seq_end ?_
 refine hK6 _ _ ?_
 refine wp_ret ?_
 refine hret _ _ ?_
 refine ends (v := .pointer (some ⟨h, 4, none⟩)) hA rfl (.cons (res_tmp rfl) .nil) rfl ?_
 exact ⟨rfl, hM.bel⟩
theorem wide_any {w : World} {g p s : Nat} {n : Nat} (hF : w.heap[g]? = some (.cells #[.int .i64 ((n : Nat) : Int)] 3)) : Calls Try.prog 46 #[.agg #[.int .i64 (((p : Nat) : Int)), .int .i64 (((s : Nat) : Int))], .pointer (some ⟨g, 0, none⟩)] w fun e w' => e = .returned (.bool (decide (n ≤ s))) ∧ Below w.heap.size w w' := by
 have hM : Mg w w ([]) := Mg.start w
 refine walk_of (l := [(0, .agg #[.int .i64 (((p : Nat) : Int)), .int .i64 (((s : Nat) : Int))]), (1, .pointer (some ⟨g, 0, none⟩))]) Try.func46 rfl Try.ntmps46 rfl rfl ?_
 intro Q hret hnorm hP a hA
 refine wp_seq_k (fun K1 hK1 => ?_)
 refine wp_region_lit ?_
 refine s_new (vs := [.int .i64 (((p : Nat) : Int)), .int .i64 (((s : Nat) : Int))]) (t := 96) hA hM rfl rfl rfl (fun g => .pointer (some ⟨g, 0, none⟩)) (does_box rfl rfl) (by decide) ?_
 intro g2 w3 hM a hA
 refine seq_do hA rfl rfl rfl (does_assign rfl) ?_
 intro a hA
 refine seq_end ?_
 refine hK1 _ _ ?_
 refine wp_seq_k (fun K4 hK4 => ?_)
 refine wp_region_lit ?_
 refine seq_do (v := .pointer (some ⟨g2, 1, none⟩)) hA rfl rfl rfl (does_field HbB_fld_96_1 rfl rfl) ?_
 intro a hA
 refine seq_do hA rfl rfl rfl (m_load1 hM HbB_is1_3 rfl 0 rfl rfl) ?_
 intro a hA
 refine seq_do hA rfl rfl rfl (m_load1F hM hF HbB_is1_3 rfl rfl) ?_
 intro a hA
 refine seq_do (v := .bool (decide (((n : Nat) : Int) ≤ ((s : Nat) : Int)))) hA rfl rfl rfl (does_bin rfl rfl bin_geq) ?_
 intro a hA
 refine seq_do hA rfl rfl rfl (does_assign rfl) ?_
 intro a hA
 refine seq_end ?_
 refine hK4 _ _ ?_
 refine wp_ret ?_
 refine hret _ _ ?_
 refine ends (v := .bool (decide (((n : Nat) : Int) ≤ ((s : Nat) : Int)))) hA rfl (.cons (res_tmp rfl) .nil) rfl ?_
 exact ⟨by congr 2; exact decide_eq_decide.2 (by omega), hM.bel⟩
theorem index_some {w0 w : World} {gb gg sc n : Nat} {gs : List (Nat × Nat)} {T : List Ck} (hgl : gs.length ≤ 1000000) (hM0 : Mg w0 w (.obj gb (.cells #[.int .i64 (((n : Nat) : Int))] 3) :: .row 96 2 (.slice (some ⟨gg, 0, none⟩) gs.length sc) gs.length (gapC gs) :: T)) : Calls Try.prog 45 #[.slice (some ⟨gg, 0, none⟩) gs.length sc, .func (.func 46) #[] #[.pointer (some ⟨gb, 0, none⟩)]] w fun e w' => e = .returned (.int .i64 (idxZ n gs)) ∧ Mg w0 w' (.obj gb (.cells #[.int .i64 (((n : Nat) : Int))] 3) :: .row 96 2 (.slice (some ⟨gg, 0, none⟩) gs.length sc) gs.length (gapC gs) :: T) := by
 have hM : Mg w0 w (.obj gb (.cells #[.int .i64 (((n : Nat) : Int))] 3) :: .row 96 2 (.slice (some ⟨gg, 0, none⟩) gs.length sc) gs.length (gapC gs) :: T) := hM0
 refine walk_of (l := [(0, .slice (some ⟨gg, 0, none⟩) gs.length sc), (1, .func (.func 46) #[] [.pointer (some ⟨gb, 0, none⟩)].toArray)]) Try.func45 rfl Try.ntmps45 rfl rfl ?_
 intro Q hret hnorm hP a hA
 refine wp_seq_k (fun K1 hK1 => ?_)
 refine wp_region_lit ?_
 refine seq_do hA rfl rfl rfl (does_assign rfl) ?_
 intro a hA
 refine seq_end ?_
 refine hK1 _ _ ?_
 refine wp_seq_k (fun K2 hK2 => ?_)
 refine wp_seq_k (fun K3 hK3 => ?_)
 refine wp_region_lit ?_
 refine seq_do hA rfl rfl rfl (does_move rfl) ?_
 intro a hA
 refine seq_do (v := .int .i64 (((gs.length : Nat) : Int))) hA rfl rfl rfl (does_len Try.underlying68 rfl) ?_
 intro a hA
 refine seq_do hA rfl rfl rfl (does_move rfl) ?_
 intro a hA
 refine seq_end ?_
 refine hK3 _ _ ?_
 refine wp_block ?_
 refine wp_loop_n (fun m_ a w1 => ∃ (i : Nat), m_ = 1 + (gs.length - i) ∧ (i ≤ gs.length ∧ ∀ (j : Nat) (g : Nat × Nat), j < i → gs[j]? = some g → ¬ n ≤ g.2) ∧ Sl a 19 [(0, .slice (some ⟨gg, 0, none⟩) gs.length sc), (1, .func (.func 46) #[] [.pointer (some ⟨gb, 0, none⟩)].toArray), (6, .slice (some ⟨gg, 0, none⟩) gs.length sc), (7, .int .i64 (((gs.length : Nat) : Int))), (8, .int .i64 (((i : Nat) : Int)))] ∧ Mg w0 w1 (.obj gb (.cells #[.int .i64 (((n : Nat) : Int))] 3) :: .row 96 2 (.slice (some ⟨gg, 0, none⟩) gs.length sc) gs.length (gapC gs) :: T)) _ ⟨0, rfl, ⟨Nat.zero_le _, fun j g h => absurd h (Nat.not_lt_zero _)⟩, hA.keep _ ⟨rfl, rfl, rfl, rfl, rfl, trivial⟩, hM⟩ ?_
 clear hM hA
 rintro m_ a w4 ⟨i, rfl, hinv6, hA, hM⟩ K5 hK5
 obtain ⟨hi0, hin⟩ := hinv6
 refine wp_seq_k (fun K7 hK7 => ?_)
 refine wp_region_lit ?_
 rcases Bool.eq_false_or_eq_true (decide (((i : Nat) : Int) < ((gs.length : Nat) : Int))) with hb8 | hb8
 · have hb8' := of_decide_eq_true hb8
   refine seq_do (v := .bool true) hA rfl rfl rfl (does_bin rfl rfl (fun w => (bin_lss w).trans (by rw [hb8]))) ?_
   intro a hA
   refine seq_end ?_
   refine hK7 _ _ ?_
   refine wp_seq_k (fun K9 hK9 => ?_)
   refine wp_cond_true (hA.ev rfl) ?_
   refine wp_skip ?_
   refine hK9 _ _ ?_
   refine wp_seq_k (fun K10 hK10 => ?_)
   refine wp_block ?_
   refine wp_seq_k (fun K11 hK11 => ?_)
   refine wp_region_lit ?_
   refine seq_do hA rfl rfl rfl (does_move rfl) ?_
   intro a hA
   refine seq_do hA rfl rfl rfl (does_assign rfl) ?_
   intro a hA
   refine seq_end ?_
   refine hK11 _ _ ?_
   refine wp_seq_k (fun K12 hK12 => ?_)
   obtain ⟨p, s, hat⟩ : ∃ p s, gs[i]? = some (p, s) := ⟨_, _, List.getElem?_eq_getElem (show i < gs.length by omega)⟩
   refine wp_region_lit ?_
   refine seq_do hA rfl rfl rfl (does_move rfl) ?_
   intro a hA
   refine seq_do hA rfl rfl rfl (does_move rfl) ?_
   intro a hA
   refine seq_do hA rfl rfl rfl (does_move rfl) ?_
   intro a hA
   refine seq_do (v := .pointer (some ⟨gg, i * 2, none⟩)) hA rfl rfl rfl (does_indexE (k := i) Try.underlying68 (by kernel_rfl) rfl rfl rfl (by omega)) ?_
   intro a hA
   refine seq_do hA rfl rfl rfl (m_loadES (o := i * 2) (cs := [.int .i64 ((p : Nat) : Int), .int .i64 ((s : Nat) : Int)]) hM 1 rfl HbB_isS_96 (gapC_at hat) rfl rfl) ?_
   intro a hA
   rcases Bool.eq_false_or_eq_true (decide (n ≤ s)) with hb13 | hb13
   · have hb13' := of_decide_eq_true hb13
     refine seq_call hA rfl rfl rfl (enters_fn rfl rfl (fun us w => by kernel_rfl)) ((hb13 ▸ wide_any (hM.obj 0 rfl))) ?_
     rintro _ w15 ⟨rfl, hb14⟩
     replace hM := hM.call hb14
     refine ⟨_, rfl, ?_⟩
     intro a hA
     refine seq_end ?_
     refine hK12 _ _ ?_
     refine wp_cond_true (hA.ev rfl) ?_
     refine wp_seq_k (fun K16 hK16 => ?_)
     refine wp_region_lit ?_
     refine seq_do hA rfl rfl rfl (does_move rfl) ?_
     intro a hA
     refine seq_do hA rfl rfl rfl (does_assign rfl) ?_
     intro a hA
     refine seq_end ?_
     refine hK16 _ _ ?_
     refine wp_ret ?_
     refine hret _ _ ?_
     refine ends (v := .int .i64 (((i : Nat) : Int))) hA rfl (.cons (res_tmp rfl) .nil) rfl ?_
     exact ⟨by rw [show idxZ n gs = ((i : Nat) : Int) from by unfold idxZ; rw [idxG_hit hin hat (of_decide_eq_true hb13)]], hM⟩
   · have hb13' := of_decide_eq_false hb13
     refine seq_call hA rfl rfl rfl (enters_fn rfl rfl (fun us w => by kernel_rfl)) ((hb13 ▸ wide_any (hM.obj 0 rfl))) ?_
     rintro _ w18 ⟨rfl, hb17⟩
     replace hM := hM.call hb17
     refine ⟨_, rfl, ?_⟩
     intro a hA
     refine seq_end ?_
     refine hK12 _ _ ?_
     refine wp_cond_false (hA.ev rfl) ?_
     refine wp_skip ?_
     refine hK10 _ _ ?_
     refine wp_region_lit ?_
     refine seq_do (v := .int .i64 (((i + 1 : Nat) : Int))) hA rfl rfl rfl (does_bin rfl rfl (ar_add ((in_i64 (by omega) (by omega)).trans (by omega)))) ?_
     intro a hA
     refine seq_do hA rfl rfl rfl (does_move rfl) ?_
     intro a hA
     refine seq_end ?_
     refine hK5 _ _ _ (by omega) ⟨i + 1, rfl, ⟨by omega, fun j g hj hg => if h9 : j < i then hin j g h9 hg else by have h8 : j = i := (by omega); subst h8; rw [hat] at hg; cases hg; exact of_decide_eq_false hb13⟩, hA.keep _ ⟨rfl, rfl, rfl, rfl, rfl, trivial⟩, hM⟩
 · have hb8' := of_decide_eq_false hb8
   refine seq_do (v := .bool false) hA rfl rfl rfl (does_bin rfl rfl (fun w => (bin_lss w).trans (by rw [hb8]))) ?_
   intro a hA
   refine seq_end ?_
   refine hK7 _ _ ?_
   refine wp_seq_k (fun K19 hK19 => ?_)
   refine wp_cond_false (hA.ev rfl) ?_
   refine wp_exit ?_
   refine hK2 _ _ ?_
   refine wp_seq_k (fun K20 hK20 => ?_)
   refine wp_region_lit ?_
   refine seq_do hA rfl rfl rfl (does_assign rfl) ?_
   intro a hA
   refine seq_end ?_
   refine hK20 _ _ ?_
   refine wp_ret ?_
   refine hret _ _ ?_
   refine ends (v := .int .i64 (-1)) hA rfl (.cons (res_tmp rfl) .nil) rfl ?_
   exact ⟨by rw [show idxZ n gs = -1 from by unfold idxZ; rw [idxG_miss (fun j g hg => hin j g (by have := (List.getElem?_eq_some_iff.1 hg).1; omega) hg)]], hM⟩
theorem index_none {w0 w : World} {gb n : Nat} {T : List Ck} (hM0 : Mg w0 w (.obj gb (.cells #[.int .i64 (((n : Nat) : Int))] 3) :: .row 96 2 (.slice none 0 0) 0 ([]) :: T)) : Calls Try.prog 45 #[.slice none 0 0, .func (.func 46) #[] #[.pointer (some ⟨gb, 0, none⟩)]] w fun e w' => e = .returned (.int .i64 (-1)) ∧ Mg w0 w' (.obj gb (.cells #[.int .i64 (((n : Nat) : Int))] 3) :: .row 96 2 (.slice none 0 0) 0 ([]) :: T) := by
 have hM : Mg w0 w (.obj gb (.cells #[.int .i64 (((n : Nat) : Int))] 3) :: .row 96 2 (.slice none 0 0) 0 ([]) :: T) := hM0
 refine walk_of (l := [(0, .slice none 0 0), (1, .func (.func 46) #[] [.pointer (some ⟨gb, 0, none⟩)].toArray)]) Try.func45 rfl Try.ntmps45 rfl rfl ?_
 intro Q hret hnorm hP a hA
 refine wp_seq_k (fun K1 hK1 => ?_)
 refine wp_region_lit ?_
 refine seq_do hA rfl rfl rfl (does_assign rfl) ?_
 intro a hA
 refine seq_end ?_
 refine hK1 _ _ ?_
 refine wp_seq_k (fun K2 hK2 => ?_)
 refine wp_seq_k (fun K3 hK3 => ?_)
 refine wp_region_lit ?_
 refine seq_do hA rfl rfl rfl (does_move rfl) ?_
 intro a hA
 refine seq_do (v := .int .i64 0) hA rfl rfl rfl (does_len Try.underlying68 rfl) ?_
 intro a hA
 refine seq_do hA rfl rfl rfl (does_move rfl) ?_
 intro a hA
 refine seq_end ?_
 refine hK3 _ _ ?_
 refine wp_block ?_
 refine wp_loop_rounds 1 ?_
 refine rounds_k ?_
 intro K4 hK4
 refine wp_seq_k (fun K5 hK5 => ?_)
 refine wp_region_lit ?_
 refine seq_do (v := .bool false) hA rfl rfl rfl (does_bin rfl rfl (fun w => by kernel_rfl)) ?_
 intro a hA
 refine seq_end ?_
 refine hK5 _ _ ?_
 refine wp_seq_k (fun K6 hK6 => ?_)
 refine wp_cond_false (hA.ev rfl) ?_
 refine wp_exit ?_
 refine hK2 _ _ ?_
 refine wp_seq_k (fun K7 hK7 => ?_)
 refine wp_region_lit ?_
 refine seq_do hA rfl rfl rfl (does_assign rfl) ?_
 intro a hA
 refine seq_end ?_
 refine hK7 _ _ ?_
 refine wp_ret ?_
 refine hret _ _ ?_
 refine ends (v := .int .i64 (-1)) hA rfl (.cons (res_tmp rfl) .nil) rfl ?_
 exact ⟨rfl, hM⟩
/-- .. whatever the row is. -/
theorem index_any {w0 w : World} {gb sc n : Nat} {sg : Option Addr} {gs : List (Nat × Nat)} {T : List Ck} (hgl : gs.length ≤ 1000000) (hM0 : Mg w0 w (.obj gb (.cells #[.int .i64 (((n : Nat) : Int))] 3) :: .row 96 2 (.slice sg gs.length sc) gs.length (gapC gs) :: T)) : Calls Try.prog 45 #[.slice sg gs.length sc, .func (.func 46) #[] #[.pointer (some ⟨gb, 0, none⟩)]] w fun e w' => e = .returned (.int .i64 (idxZ n gs)) ∧ Mg w0 w' (.obj gb (.cells #[.int .i64 (((n : Nat) : Int))] 3) :: .row 96 2 (.slice sg gs.length sc) gs.length (gapC gs) :: T) := by
  rcases (hM0.has 1 rfl).2 with ⟨he, h0⟩ | ⟨gg, cap, cur, he, _⟩
  · have : gs = [] := List.length_eq_zero_iff.1 h0
    subst this
    cases he
    exact index_none hM0
  · cases he
    exact index_some hgl hM0
theorem takeS_hit {w0 w : World} {h m last ss ls sc lc gg n i p s : Nat} {lg : Option Addr} {gs gl : List (Nat × Nat)} {os : List Ob} {T : List Ck} (hgl : gs.length ≤ 1000000) (hi : idxG n gs = some i) (hat : gs[i]? = some (p, s)) (hns : n ≤ s) (hps : p + s ≤ 65536) (hM0 : Mg w0 w (.obj h (.cells #[.map (some m), .int .i64 (((last : Nat) : Int)), .int .i64 (((ss : Nat) : Int)), .slice (some ⟨gg, 0, none⟩) gs.length sc, .int .i64 (((ls : Nat) : Int)), .slice lg gl.length lc] 73) :: .obj m (mapO (os.map Ob.en) last) :: .row 96 2 (.slice (some ⟨gg, 0, none⟩) gs.length sc) gs.length (gapC gs) :: .row 96 2 (.slice lg gl.length lc) gl.length (gapC gl) :: T)) : Calls Try.prog 29 #[.pointer (some ⟨h, 2, none⟩), .int .i64 ((n : Nat) : Int)] w fun e w' => e = .returned (.tuple #[.int .i64 ((p : Nat) : Int), .bool true]) ∧ Mg w0 w' (.obj h (.cells #[.map (some m), .int .i64 (((last : Nat) : Int)), .int .i64 (((ss : Nat) : Int)), .slice (some ⟨gg, 0, none⟩) gs.length sc, .int .i64 (((ls : Nat) : Int)), .slice lg gl.length lc] 73) :: .obj m (mapO (os.map Ob.en) last) :: .row 96 2 (.slice (some ⟨gg, 0, none⟩) gs.length sc) gs.length (gapC (gs.set i (p + n, s - n))) :: .row 96 2 (.slice lg gl.length lc) gl.length (gapC gl) :: T) := by
 have hlt : i < gs.length := (List.getElem?_eq_some_iff.1 hat).1
 have hM : Mg w0 w (.obj h (.cells #[.map (some m), .int .i64 (((last : Nat) : Int)), .int .i64 (((ss : Nat) : Int)), .slice (some ⟨gg, 0, none⟩) gs.length sc, .int .i64 (((ls : Nat) : Int)), .slice lg gl.length lc] 73) :: .obj m (mapO (os.map Ob.en) last) :: .row 96 2 (.slice (some ⟨gg, 0, none⟩) gs.length sc) gs.length (gapC gs) :: .row 96 2 (.slice lg gl.length lc) gl.length (gapC gl) :: T) := hM0
 refine walk_of (l := [(0, .pointer (some ⟨h, 2, none⟩)), (1, .int .i64 (((n : Nat) : Int)))]) Try.func29 rfl Try.ntmps29 rfl rfl ?_
 intro Q hret hnorm hP a hA
 refine wp_seq_k (fun K1 hK1 => ?_)
 refine wp_region_lit ?_
 refine s_new (vs := [.int .i64 (((n : Nat) : Int))]) (t := 3) hA hM rfl rfl rfl (fun g => .pointer (some ⟨g, 0, none⟩)) (does_box rfl rfl) (by decide) ?_
 intro g2 w3 hM a hA
 refine seq_do hA rfl rfl rfl (does_assign rfl) ?_
 intro a hA
 refine seq_do hA rfl rfl rfl (does_assign rfl) ?_
 intro a hA
 refine seq_end ?_
 refine hK1 _ _ ?_
 refine wp_seq_k (fun K4 hK4 => ?_)
 refine wp_region_lit ?_
 refine seq_do hA rfl rfl rfl (does_move rfl) ?_
 intro a hA
 refine seq_do hA rfl rfl rfl (does_nilq rfl) ?_
 intro a hA
 refine seq_do (v := .pointer (some ⟨h, 3, none⟩)) hA rfl rfl rfl (does_field HbB_fld_70_1 rfl rfl) ?_
 intro a hA
 refine seq_do hA rfl rfl rfl (m_load1 hM HbB_is1_68 rfl 1 rfl rfl) ?_
 intro a hA
 refine seq_do (v := .func (.func 46) #[] [.pointer (some ⟨g2, 0, none⟩)].toArray) hA rfl rfl rfl (does_makeFunc rfl) ?_
 intro a hA
 replace hM : Mg w0 w3 (.row 96 2 (.slice (some ⟨gg, 0, none⟩) gs.length sc) gs.length (gapC gs) :: .obj g2 (.cells #[.int .i64 (((n : Nat) : Int))] 3) :: .obj h (.cells #[.map (some m), .int .i64 (((last : Nat) : Int)), .int .i64 (((ss : Nat) : Int)), .slice (some ⟨gg, 0, none⟩) gs.length sc, .int .i64 (((ls : Nat) : Int)), .slice lg gl.length lc] 73) :: .obj m (mapO (os.map Ob.en) last) :: .row 96 2 (.slice lg gl.length lc) gl.length (gapC gl) :: T) := hM.bring 3 rfl rfl
 replace hM : Mg w0 w3 (.obj g2 (.cells #[.int .i64 (((n : Nat) : Int))] 3) :: .row 96 2 (.slice (some ⟨gg, 0, none⟩) gs.length sc) gs.length (gapC gs) :: .obj h (.cells #[.map (some m), .int .i64 (((last : Nat) : Int)), .int .i64 (((ss : Nat) : Int)), .slice (some ⟨gg, 0, none⟩) gs.length sc, .int .i64 (((ls : Nat) : Int)), .slice lg gl.length lc] 73) :: .obj m (mapO (os.map Ob.en) last) :: .row 96 2 (.slice lg gl.length lc) gl.length (gapC gl) :: T) := hM.bring 1 rfl rfl
 refine seq_call hA rfl rfl rfl (enters_func rfl rfl (fun w => by kernel_rfl)) (index_some hgl hM) ?_
 rintro _ w6 ⟨he9, hM5⟩
 rw [show idxZ n gs = ((i : Nat) : Int) from by unfold idxZ; rw [hi]] at he9
 subst he9
 replace hM : Mg w0 w6 (.obj g2 (.cells #[.int .i64 (((n : Nat) : Int))] 3) :: .row 96 2 (.slice (some ⟨gg, 0, none⟩) gs.length sc) gs.length (gapC gs) :: .obj h (.cells #[.map (some m), .int .i64 (((last : Nat) : Int)), .int .i64 (((ss : Nat) : Int)), .slice (some ⟨gg, 0, none⟩) gs.length sc, .int .i64 (((ls : Nat) : Int)), .slice lg gl.length lc] 73) :: .obj m (mapO (os.map Ob.en) last) :: .row 96 2 (.slice lg gl.length lc) gl.length (gapC gl) :: T) := hM5
 refine ⟨_, rfl, ?_⟩
 intro a hA
 refine seq_do hA rfl rfl rfl (does_assign rfl) ?_
 intro a hA
 refine seq_end ?_
 refine hK4 _ _ ?_
 refine wp_seq_k (fun K7 hK7 => ?_)
 refine wp_seq_k (fun K8 hK8 => ?_)
 refine wp_region_lit ?_
 refine seq_do hA rfl rfl rfl (does_move rfl) ?_
 intro a hA
 refine seq_do (v := .bool false) hA rfl rfl rfl (does_bin rfl rfl (fun w => (bin_lss w).trans (by rw [show (decide (((i : Nat) : Int) < 0)) = false from (decide_eq_false (by omega))]))) ?_
 intro a hA
 refine seq_end ?_
 refine hK8 _ _ ?_
 refine wp_cond_false (hA.ev rfl) ?_
 refine wp_skip ?_
 refine hK7 _ _ ?_
 refine wp_seq_k (fun K9 hK9 => ?_)
 refine wp_region_lit ?_
 refine seq_do hA rfl rfl rfl (does_move rfl) ?_
 intro a hA
 refine seq_do hA rfl rfl rfl (does_nilq rfl) ?_
 intro a hA
 refine seq_do (v := .pointer (some ⟨h, 3, none⟩)) hA rfl rfl rfl (does_field HbB_fld_70_1 rfl rfl) ?_
 intro a hA
 refine seq_do hA rfl rfl rfl (m_load1 hM HbB_is1_68 rfl 2 rfl rfl) ?_
 intro a hA
 refine seq_do hA rfl rfl rfl (does_move rfl) ?_
 intro a hA
 refine seq_do (v := .pointer (some ⟨gg, i * 2, none⟩)) hA rfl rfl rfl (does_indexE (k := i) Try.underlying68 (by kernel_rfl) rfl rfl rfl (by omega)) ?_
 intro a hA
 refine seq_do hA rfl rfl rfl (m_loadES (o := i * 2) (cs := [.int .i64 ((p : Nat) : Int), .int .i64 ((s : Nat) : Int)]) hM 1 rfl HbB_isS_96 (gapC_at hat) rfl rfl) ?_
 intro a hA
 refine s_new (vs := [.int .i64 0, .int .i64 0]) (t := 96) hA hM rfl rfl rfl (fun g => .pointer (some ⟨g, 0, none⟩)) (does_alloc (z := .agg #[.int .i64 0, .int .i64 0]) (by kernel_rfl) rfl) (by decide) ?_
 intro g10 w11 hM a hA
 refine s_store (us := [.int .i64 (((p : Nat) : Int)), .int .i64 (((s : Nat) : Int))]) (L' := (.obj g10 (.cells #[.int .i64 (((p : Nat) : Int)), .int .i64 (((s : Nat) : Int))] 96) :: .obj g2 (.cells #[.int .i64 (((n : Nat) : Int))] 3) :: .row 96 2 (.slice (some ⟨gg, 0, none⟩) gs.length sc) gs.length (gapC gs) :: .obj h (.cells #[.map (some m), .int .i64 (((last : Nat) : Int)), .int .i64 (((ss : Nat) : Int)), .slice (some ⟨gg, 0, none⟩) gs.length sc, .int .i64 (((ls : Nat) : Int)), .slice lg gl.length lc] 73) :: .obj m (mapO (os.map Ob.en) last) :: .row 96 2 (.slice lg gl.length lc) gl.length (gapC gl) :: T)) hA hM rfl rfl (m_store rfl rfl rfl (by kernel_rfl) hM 0 rfl rfl rfl) 0 rfl rfl rfl ?_
 intro w12 hM
 refine seq_end ?_
 refine hK9 _ _ ?_
 refine wp_seq_k (fun K13 hK13 => ?_)
 refine wp_draw (S := fun w1 => Mg w0 w1 (.obj g10 (.cells #[.int .i64 (((p : Nat) : Int)), .int .i64 (((s : Nat) : Int))] 96) :: .obj g2 (.cells #[.int .i64 (((n : Nat) : Int))] 3) :: .obj h (.cells #[.map (some m), .int .i64 (((last : Nat) : Int)), .int .i64 (((ss : Nat) : Int)), .slice (some ⟨gg, 0, none⟩) gs.length sc, .int .i64 (((ls : Nat) : Int)), .slice lg gl.length lc] 73) :: [])) (by kernel_rfl) ?_
 replace hM := hM.drew
 refine any_tk hA 0 rfl rfl rfl rfl hP (hM.sub (.cons_cons _ (.cons_cons _ (.cons _ (.cons_cons _ (.cons _ (.cons _ (List.nil_sublist _)))))))) (fun w1 hM => does_move rfl) ?_
 intro a hA
 refine any_tk hA 1 rfl rfl rfl rfl hP (hM.sub (.cons_cons _ (.cons_cons _ (.cons _ (.cons_cons _ (.cons _ (.cons _ (List.nil_sublist _)))))))) (fun w1 hM => does_nilq rfl) ?_
 intro a hA
 refine any_tk (v := .pointer (some ⟨h, 3, none⟩)) hA 2 rfl rfl rfl rfl hP (hM.sub (.cons_cons _ (.cons_cons _ (.cons _ (.cons_cons _ (.cons _ (.cons _ (List.nil_sublist _)))))))) (fun w1 hM => does_field HbB_fld_70_1 rfl rfl) ?_
 intro a hA
 refine any_tk hA 3 rfl rfl rfl rfl hP (hM.sub (.cons_cons _ (.cons_cons _ (.cons _ (.cons_cons _ (.cons _ (.cons _ (List.nil_sublist _)))))))) (fun w1 hM => m_load1 hM HbB_is1_68 rfl 2 rfl rfl) ?_
 intro a hA
 refine any_tk hA 4 rfl rfl rfl rfl hP (hM.sub (.cons_cons _ (.cons_cons _ (.cons _ (.cons_cons _ (.cons _ (.cons _ (List.nil_sublist _)))))))) (fun w1 hM => does_move rfl) ?_
 intro a hA
 refine any_tk (v := .pointer (some ⟨g10, 0, none⟩)) hA 5 rfl rfl rfl rfl hP (hM.sub (.cons_cons _ (.cons_cons _ (.cons _ (.cons_cons _ (.cons _ (.cons _ (List.nil_sublist _)))))))) (fun w1 hM => does_field HbB_fld_96_0 rfl rfl) ?_
 intro a hA
 refine any_tk hA 6 rfl rfl rfl rfl hP (hM.sub (.cons_cons _ (.cons_cons _ (.cons _ (.cons_cons _ (.cons _ (.cons _ (List.nil_sublist _)))))))) (fun w1 hM => m_load1 hM HbB_is1_3 rfl 0 rfl rfl) ?_
 intro a hA
 refine any_tk hA 7 rfl rfl rfl rfl hP (hM.sub (.cons_cons _ (.cons_cons _ (.cons _ (.cons_cons _ (.cons _ (.cons _ (List.nil_sublist _)))))))) (fun w1 hM => m_load1 hM HbB_is1_3 rfl 1 rfl rfl) ?_
 intro a hA
 refine any_tk (v := .int .i64 (((p + n : Nat) : Int))) hA 8 rfl rfl rfl rfl hP (hM.sub (.cons_cons _ (.cons_cons _ (.cons _ (.cons_cons _ (.cons _ (.cons _ (List.nil_sublist _)))))))) (fun w1 hM => does_bin rfl rfl (ar_add ((in_i64 (by omega) (by omega)).trans (by omega)))) ?_
 intro a hA
 refine any_tk (v := .pointer (some ⟨g10, 1, none⟩)) hA 9 rfl rfl rfl rfl hP (hM.sub (.cons_cons _ (.cons_cons _ (.cons _ (.cons_cons _ (.cons _ (.cons _ (List.nil_sublist _)))))))) (fun w1 hM => does_field HbB_fld_96_1 rfl rfl) ?_
 intro a hA
 refine any_tk hA 10 rfl rfl rfl rfl hP (hM.sub (.cons_cons _ (.cons_cons _ (.cons _ (.cons_cons _ (.cons _ (.cons _ (List.nil_sublist _)))))))) (fun w1 hM => m_load1 hM HbB_is1_3 rfl 0 rfl rfl) ?_
 intro a hA
 refine any_tk hA 11 rfl rfl rfl rfl hP (hM.sub (.cons_cons _ (.cons_cons _ (.cons _ (.cons_cons _ (.cons _ (.cons _ (List.nil_sublist _)))))))) (fun w1 hM => m_load1 hM HbB_is1_3 rfl 1 rfl rfl) ?_
 intro a hA
 refine any_tk (v := .int .i64 (((s - n : Nat) : Int))) hA 12 rfl rfl rfl rfl hP (hM.sub (.cons_cons _ (.cons_cons _ (.cons _ (.cons_cons _ (.cons _ (.cons _ (List.nil_sublist _)))))))) (fun w1 hM => does_bin rfl rfl (ar_sub ((in_i64 (by omega) (by omega)).trans (by omega)))) ?_
 intro a hA
 refine any_tk (v := .agg #[.int .i64 (((p + n : Nat) : Int)), .int .i64 (((s - n : Nat) : Int))]) hA 13 rfl rfl rfl rfl hP (hM.sub (.cons_cons _ (.cons_cons _ (.cons _ (.cons_cons _ (.cons _ (.cons _ (List.nil_sublist _)))))))) (fun w1 hM => does_build rfl (fun w => by kernel_rfl)) ?_
 intro a hA
 refine any_tk (v := .pointer (some ⟨gg, i * 2, none⟩)) hA 14 rfl rfl rfl rfl hP (hM.sub (.cons_cons _ (.cons_cons _ (.cons _ (.cons_cons _ (.cons _ (.cons _ (List.nil_sublist _)))))))) (fun w1 hM => does_indexE (k := i) Try.underlying68 (by kernel_rfl) rfl rfl rfl (by omega)) ?_
 intro a hA
 refine any_one (by kernel_rfl) (g_storeE (cs := [.int .i64 (((p + n : Nat) : Int)), .int .i64 (((s - n : Nat) : Int))]) (L' := (.obj g10 (.cells #[.int .i64 (((p : Nat) : Int)), .int .i64 (((s : Nat) : Int))] 96) :: .obj g2 (.cells #[.int .i64 (((n : Nat) : Int))] 3) :: .row 96 2 (.slice (some ⟨gg, 0, none⟩) gs.length sc) gs.length (over (gapC gs) (i * 2) [.int .i64 (((p + n : Nat) : Int)), .int .i64 (((s - n : Nat) : Int))]) :: .obj h (.cells #[.map (some m), .int .i64 (((last : Nat) : Int)), .int .i64 (((ss : Nat) : Int)), .slice (some ⟨gg, 0, none⟩) gs.length sc, .int .i64 (((ls : Nat) : Int)), .slice lg gl.length lc] 73) :: .obj m (mapO (os.map Ob.en) last) :: .row 96 2 (.slice lg gl.length lc) gl.length (gapC gl) :: T)) (us := []) hA hM 15 rfl rfl rfl (m_storeE rfl rfl rfl (by kernel_rfl) hM 2 rfl (by show i * 2 + 2 ≤ _; omega) rfl) 2 rfl rfl ?_)
 intro w14 hM
 replace hM : Mg w0 w14 (.obj g10 (.cells #[.int .i64 (((p : Nat) : Int)), .int .i64 (((s : Nat) : Int))] 96) :: .obj g2 (.cells #[.int .i64 (((n : Nat) : Int))] 3) :: .row 96 2 (.slice (some ⟨gg, 0, none⟩) gs.length sc) gs.length (gapC (gs.set i (p + n, s - n))) :: .obj h (.cells #[.map (some m), .int .i64 (((last : Nat) : Int)), .int .i64 (((ss : Nat) : Int)), .slice (some ⟨gg, 0, none⟩) gs.length sc, .int .i64 (((ls : Nat) : Int)), .slice lg gl.length lc] 73) :: .obj m (mapO (os.map Ob.en) last) :: .row 96 2 (.slice lg gl.length lc) gl.length (gapC gl) :: T) := by rw [gapC_set _ _ hlt] at hM; exact hM
 refine ⟨(hM.sub (.cons_cons _ (.cons_cons _ (.cons _ (.cons_cons _ (.cons _ (.cons _ (List.nil_sublist _)))))))), ?_⟩
 refine any_end (by kernel_rfl) ?_
 refine hK13 _ _ ?_
 refine wp_seq_k (fun K15 hK15 => ?_)
 refine wp_region_lit ?_
 refine seq_do (v := .pointer (some ⟨g10, 0, none⟩)) hA rfl rfl rfl (does_field HbB_fld_96_0 rfl rfl) ?_
 intro a hA
 refine seq_do hA rfl rfl rfl (m_load1 hM HbB_is1_3 rfl 0 rfl rfl) ?_
 intro a hA
 refine seq_do hA rfl rfl rfl (does_assign rfl) ?_
 intro a hA
 refine seq_do hA rfl rfl rfl (does_assign rfl) ?_
 intro a hA
 refine seq_end ?_
 refine hK15 _ _ ?_
 refine wp_ret ?_
 refine hret _ _ ?_
 refine ends (v := .tuple #[.int .i64 (((p : Nat) : Int)), .bool true]) hA rfl (.cons (res_tmp rfl) (.cons (res_tmp rfl) .nil)) rfl ?_
 replace hM : Mg w0 w14 (.row 96 2 (.slice lg gl.length lc) gl.length (gapC gl) :: .obj g10 (.cells #[.int .i64 (((p : Nat) : Int)), .int .i64 (((s : Nat) : Int))] 96) :: .obj g2 (.cells #[.int .i64 (((n : Nat) : Int))] 3) :: .row 96 2 (.slice (some ⟨gg, 0, none⟩) gs.length sc) gs.length (gapC (gs.set i (p + n, s - n))) :: .obj h (.cells #[.map (some m), .int .i64 (((last : Nat) : Int)), .int .i64 (((ss : Nat) : Int)), .slice (some ⟨gg, 0, none⟩) gs.length sc, .int .i64 (((ls : Nat) : Int)), .slice lg gl.length lc] 73) :: .obj m (mapO (os.map Ob.en) last) :: T) := hM.bring 5 rfl rfl
 replace hM : Mg w0 w14 (.row 96 2 (.slice (some ⟨gg, 0, none⟩) gs.length sc) gs.length (gapC (gs.set i (p + n, s - n))) :: .row 96 2 (.slice lg gl.length lc) gl.length (gapC gl) :: .obj g10 (.cells #[.int .i64 (((p : Nat) : Int)), .int .i64 (((s : Nat) : Int))] 96) :: .obj g2 (.cells #[.int .i64 (((n : Nat) : Int))] 3) :: .obj h (.cells #[.map (some m), .int .i64 (((last : Nat) : Int)), .int .i64 (((ss : Nat) : Int)), .slice (some ⟨gg, 0, none⟩) gs.length sc, .int .i64 (((ls : Nat) : Int)), .slice lg gl.length lc] 73) :: .obj m (mapO (os.map Ob.en) last) :: T) := hM.bring 3 rfl rfl
 replace hM : Mg w0 w14 (.obj m (mapO (os.map Ob.en) last) :: .row 96 2 (.slice (some ⟨gg, 0, none⟩) gs.length sc) gs.length (gapC (gs.set i (p + n, s - n))) :: .row 96 2 (.slice lg gl.length lc) gl.length (gapC gl) :: .obj g10 (.cells #[.int .i64 (((p : Nat) : Int)), .int .i64 (((s : Nat) : Int))] 96) :: .obj g2 (.cells #[.int .i64 (((n : Nat) : Int))] 3) :: .obj h (.cells #[.map (some m), .int .i64 (((last : Nat) : Int)), .int .i64 (((ss : Nat) : Int)), .slice (some ⟨gg, 0, none⟩) gs.length sc, .int .i64 (((ls : Nat) : Int)), .slice lg gl.length lc] 73) :: T) := hM.bring 5 rfl rfl
 replace hM : Mg w0 w14 (.obj h (.cells #[.map (some m), .int .i64 (((last : Nat) : Int)), .int .i64 (((ss : Nat) : Int)), .slice (some ⟨gg, 0, none⟩) gs.length sc, .int .i64 (((ls : Nat) : Int)), .slice lg gl.length lc] 73) :: .obj m (mapO (os.map Ob.en) last) :: .row 96 2 (.slice (some ⟨gg, 0, none⟩) gs.length sc) gs.length (gapC (gs.set i (p + n, s - n))) :: .row 96 2 (.slice lg gl.length lc) gl.length (gapC gl) :: .obj g10 (.cells #[.int .i64 (((p : Nat) : Int)), .int .i64 (((s : Nat) : Int))] 96) :: .obj g2 (.cells #[.int .i64 (((n : Nat) : Int))] 3) :: T) := hM.bring 5 rfl rfl
 replace hM : Mg w0 w14 (.obj h (.cells #[.map (some m), .int .i64 (((last : Nat) : Int)), .int .i64 (((ss : Nat) : Int)), .slice (some ⟨gg, 0, none⟩) gs.length sc, .int .i64 (((ls : Nat) : Int)), .slice lg gl.length lc] 73) :: .obj m (mapO (os.map Ob.en) last) :: .row 96 2 (.slice (some ⟨gg, 0, none⟩) gs.length sc) gs.length (gapC (gs.set i (p + n, s - n))) :: .row 96 2 (.slice lg gl.length lc) gl.length (gapC gl) :: T) := by
   have h9 := hM.sub (.cons_cons _ (.cons_cons _ (.cons_cons _ (.cons_cons _ (.cons _ (.cons _ (.refl _)))))))
   exact h9
 exact ⟨rfl, hM⟩
theorem takeS_miss {w0 w : World} {n : Nat} {h m last ss ls sc lc : Nat} {sg lg : Option Addr} {gs gl : List (Nat × Nat)} {os : List Ob} {T : List Ck} (hgl : gs.length ≤ 1000000) (hi : idxG n gs = none) (hM0 : Mg w0 w (.obj h (.cells #[.map (some m), .int .i64 (((last : Nat) : Int)), .int .i64 (((ss : Nat) : Int)), .slice sg gs.length sc, .int .i64 (((ls : Nat) : Int)), .slice lg gl.length lc] 73) :: .obj m (mapO (os.map Ob.en) last) :: .row 96 2 (.slice sg gs.length sc) gs.length (gapC gs) :: .row 96 2 (.slice lg gl.length lc) gl.length (gapC gl) :: T)) : Calls Try.prog 29 #[.pointer (some ⟨h, 2, none⟩), .int .i64 ((n : Nat) : Int)] w fun e w' => e = .returned (.tuple #[.int .i64 0, .bool false]) ∧ Mg w0 w' (.obj h (.cells #[.map (some m), .int .i64 (((last : Nat) : Int)), .int .i64 (((ss : Nat) : Int)), .slice sg gs.length sc, .int .i64 (((ls : Nat) : Int)), .slice lg gl.length lc] 73) :: .obj m (mapO (os.map Ob.en) last) :: .row 96 2 (.slice sg gs.length sc) gs.length (gapC gs) :: .row 96 2 (.slice lg gl.length lc) gl.length (gapC gl) :: T) := by
 have hM : Mg w0 w (.obj h (.cells #[.map (some m), .int .i64 (((last : Nat) : Int)), .int .i64 (((ss : Nat) : Int)), .slice sg gs.length sc, .int .i64 (((ls : Nat) : Int)), .slice lg gl.length lc] 73) :: .obj m (mapO (os.map Ob.en) last) :: .row 96 2 (.slice sg gs.length sc) gs.length (gapC gs) :: .row 96 2 (.slice lg gl.length lc) gl.length (gapC gl) :: T) := hM0
 refine walk_of (l := [(0, .pointer (some ⟨h, 2, none⟩)), (1, .int .i64 (((n : Nat) : Int)))]) Try.func29 rfl Try.ntmps29 rfl rfl ?_
 intro Q hret hnorm hP a hA
 refine wp_seq_k (fun K1 hK1 => ?_)
 refine wp_region_lit ?_
 refine s_new (vs := [.int .i64 (((n : Nat) : Int))]) (t := 3) hA hM rfl rfl rfl (fun g => .pointer (some ⟨g, 0, none⟩)) (does_box rfl rfl) (by decide) ?_
 intro g2 w3 hM a hA
 refine seq_do hA rfl rfl rfl (does_assign rfl) ?_
 intro a hA
 refine seq_do hA rfl rfl rfl (does_assign rfl) ?_
 intro a hA
 refine seq_end ?_
 refine hK1 _ _ ?_
 refine wp_seq_k (fun K4 hK4 => ?_)
 refine wp_region_lit ?_
 refine seq_do hA rfl rfl rfl (does_move rfl) ?_
 intro a hA
 refine seq_do hA rfl rfl rfl (does_nilq rfl) ?_
 intro a hA
 refine seq_do (v := .pointer (some ⟨h, 3, none⟩)) hA rfl rfl rfl (does_field HbB_fld_70_1 rfl rfl) ?_
 intro a hA
 refine seq_do hA rfl rfl rfl (m_load1 hM HbB_is1_68 rfl 1 rfl rfl) ?_
 intro a hA
 refine seq_do (v := .func (.func 46) #[] [.pointer (some ⟨g2, 0, none⟩)].toArray) hA rfl rfl rfl (does_makeFunc rfl) ?_
 intro a hA
 replace hM : Mg w0 w3 (.row 96 2 (.slice sg gs.length sc) gs.length (gapC gs) :: .obj g2 (.cells #[.int .i64 (((n : Nat) : Int))] 3) :: .obj h (.cells #[.map (some m), .int .i64 (((last : Nat) : Int)), .int .i64 (((ss : Nat) : Int)), .slice sg gs.length sc, .int .i64 (((ls : Nat) : Int)), .slice lg gl.length lc] 73) :: .obj m (mapO (os.map Ob.en) last) :: .row 96 2 (.slice lg gl.length lc) gl.length (gapC gl) :: T) := hM.bring 3 rfl rfl
 replace hM : Mg w0 w3 (.obj g2 (.cells #[.int .i64 (((n : Nat) : Int))] 3) :: .row 96 2 (.slice sg gs.length sc) gs.length (gapC gs) :: .obj h (.cells #[.map (some m), .int .i64 (((last : Nat) : Int)), .int .i64 (((ss : Nat) : Int)), .slice sg gs.length sc, .int .i64 (((ls : Nat) : Int)), .slice lg gl.length lc] 73) :: .obj m (mapO (os.map Ob.en) last) :: .row 96 2 (.slice lg gl.length lc) gl.length (gapC gl) :: T) := hM.bring 1 rfl rfl
 refine seq_call hA rfl rfl rfl (enters_func rfl rfl (fun w => by kernel_rfl)) (index_any hgl hM) ?_
 rintro _ w6 ⟨he9, hM5⟩
 rw [show idxZ n gs = -1 from by unfold idxZ; rw [hi]] at he9
 subst he9
 replace hM : Mg w0 w6 (.obj g2 (.cells #[.int .i64 (((n : Nat) : Int))] 3) :: .row 96 2 (.slice sg gs.length sc) gs.length (gapC gs) :: .obj h (.cells #[.map (some m), .int .i64 (((last : Nat) : Int)), .int .i64 (((ss : Nat) : Int)), .slice sg gs.length sc, .int .i64 (((ls : Nat) : Int)), .slice lg gl.length lc] 73) :: .obj m (mapO (os.map Ob.en) last) :: .row 96 2 (.slice lg gl.length lc) gl.length (gapC gl) :: T) := hM5
 refine ⟨_, rfl, ?_⟩
 intro a hA
 refine seq_do hA rfl rfl rfl (does_assign rfl) ?_
 intro a hA
 refine seq_end ?_
 refine hK4 _ _ ?_
 refine wp_seq_k (fun K7 hK7 => ?_)
 refine wp_seq_k (fun K8 hK8 => ?_)
 refine wp_region_lit ?_
 refine seq_do hA rfl rfl rfl (does_move rfl) ?_
 intro a hA
 refine seq_do (v := .bool true) hA rfl rfl rfl (does_bin rfl rfl (fun w => by kernel_rfl)) ?_
 intro a hA
 refine seq_end ?_
 refine hK8 _ _ ?_
 refine wp_cond_true (hA.ev rfl) ?_
 refine wp_seq_k (fun K9 hK9 => ?_)
 refine wp_region_lit ?_
 refine seq_do hA rfl rfl rfl (does_assign rfl) ?_
 intro a hA
 refine seq_do hA rfl rfl rfl (does_assign rfl) ?_
 intro a hA
 refine seq_end ?_
 refine hK9 _ _ ?_
 refine wp_ret ?_
 refine hret _ _ ?_
 refine ends (v := .tuple #[.int .i64 0, .bool false]) hA rfl (.cons (res_tmp rfl) (.cons (res_tmp rfl) .nil)) rfl ?_
 replace hM : Mg w0 w6 (.row 96 2 (.slice lg gl.length lc) gl.length (gapC gl) :: .obj g2 (.cells #[.int .i64 (((n : Nat) : Int))] 3) :: .row 96 2 (.slice sg gs.length sc) gs.length (gapC gs) :: .obj h (.cells #[.map (some m), .int .i64 (((last : Nat) : Int)), .int .i64 (((ss : Nat) : Int)), .slice sg gs.length sc, .int .i64 (((ls : Nat) : Int)), .slice lg gl.length lc] 73) :: .obj m (mapO (os.map Ob.en) last) :: T) := hM.bring 4 rfl rfl
 replace hM : Mg w0 w6 (.row 96 2 (.slice sg gs.length sc) gs.length (gapC gs) :: .row 96 2 (.slice lg gl.length lc) gl.length (gapC gl) :: .obj g2 (.cells #[.int .i64 (((n : Nat) : Int))] 3) :: .obj h (.cells #[.map (some m), .int .i64 (((last : Nat) : Int)), .int .i64 (((ss : Nat) : Int)), .slice sg gs.length sc, .int .i64 (((ls : Nat) : Int)), .slice lg gl.length lc] 73) :: .obj m (mapO (os.map Ob.en) last) :: T) := hM.bring 2 rfl rfl
 replace hM : Mg w0 w6 (.obj m (mapO (os.map Ob.en) last) :: .row 96 2 (.slice sg gs.length sc) gs.length (gapC gs) :: .row 96 2 (.slice lg gl.length lc) gl.length (gapC gl) :: .obj g2 (.cells #[.int .i64 (((n : Nat) : Int))] 3) :: .obj h (.cells #[.map (some m), .int .i64 (((last : Nat) : Int)), .int .i64 (((ss : Nat) : Int)), .slice sg gs.length sc, .int .i64 (((ls : Nat) : Int)), .slice lg gl.length lc] 73) :: T) := hM.bring 4 rfl rfl
 replace hM : Mg w0 w6 (.obj h (.cells #[.map (some m), .int .i64 (((last : Nat) : Int)), .int .i64 (((ss : Nat) : Int)), .slice sg gs.length sc, .int .i64 (((ls : Nat) : Int)), .slice lg gl.length lc] 73) :: .obj m (mapO (os.map Ob.en) last) :: .row 96 2 (.slice sg gs.length sc) gs.length (gapC gs) :: .row 96 2 (.slice lg gl.length lc) gl.length (gapC gl) :: .obj g2 (.cells #[.int .i64 (((n : Nat) : Int))] 3) :: T) := hM.bring 4 rfl rfl
 replace hM : Mg w0 w6 (.obj h (.cells #[.map (some m), .int .i64 (((last : Nat) : Int)), .int .i64 (((ss : Nat) : Int)), .slice sg gs.length sc, .int .i64 (((ls : Nat) : Int)), .slice lg gl.length lc] 73) :: .obj m (mapO (os.map Ob.en) last) :: .row 96 2 (.slice sg gs.length sc) gs.length (gapC gs) :: .row 96 2 (.slice lg gl.length lc) gl.length (gapC gl) :: T) := by
   have h9 := hM.sub (.cons_cons _ (.cons_cons _ (.cons_cons _ (.cons_cons _ (.cons _ (.refl _))))))
   exact h9
 exact ⟨rfl, hM⟩
theorem takeL_hit {w0 w : World} {h m last ss ls sc lc gg n i p s : Nat} {sg : Option Addr} {gs gl : List (Nat × Nat)} {os : List Ob} {T : List Ck} (hgl : gl.length ≤ 1000000) (hi : idxG n gl = some i) (hat : gl[i]? = some (p, s)) (hns : n ≤ s) (hps : p + s ≤ 65536) (hM0 : Mg w0 w (.obj h (.cells #[.map (some m), .int .i64 (((last : Nat) : Int)), .int .i64 (((ss : Nat) : Int)), .slice sg gs.length sc, .int .i64 (((ls : Nat) : Int)), .slice (some ⟨gg, 0, none⟩) gl.length lc] 73) :: .obj m (mapO (os.map Ob.en) last) :: .row 96 2 (.slice sg gs.length sc) gs.length (gapC gs) :: .row 96 2 (.slice (some ⟨gg, 0, none⟩) gl.length lc) gl.length (gapC gl) :: T)) : Calls Try.prog 29 #[.pointer (some ⟨h, 4, none⟩), .int .i64 ((n : Nat) : Int)] w fun e w' => e = .returned (.tuple #[.int .i64 ((p : Nat) : Int), .bool true]) ∧ Mg w0 w' (.obj h (.cells #[.map (some m), .int .i64 (((last : Nat) : Int)), .int .i64 (((ss : Nat) : Int)), .slice sg gs.length sc, .int .i64 (((ls : Nat) : Int)), .slice (some ⟨gg, 0, none⟩) gl.length lc] 73) :: .obj m (mapO (os.map Ob.en) last) :: .row 96 2 (.slice sg gs.length sc) gs.length (gapC gs) :: .row 96 2 (.slice (some ⟨gg, 0, none⟩) gl.length lc) gl.length (gapC (gl.set i (p + n, s - n))) :: T) := by
 have hlt : i < gl.length := (List.getElem?_eq_some_iff.1 hat).1
 have hM : Mg w0 w (.obj h (.cells #[.map (some m), .int .i64 (((last : Nat) : Int)), .int .i64 (((ss : Nat) : Int)), .slice sg gs.length sc, .int .i64 (((ls : Nat) : Int)), .slice (some ⟨gg, 0, none⟩) gl.length lc] 73) :: .obj m (mapO (os.map Ob.en) last) :: .row 96 2 (.slice sg gs.length sc) gs.length (gapC gs) :: .row 96 2 (.slice (some ⟨gg, 0, none⟩) gl.length lc) gl.length (gapC gl) :: T) := hM0
 refine walk_of (l := [(0, .pointer (some ⟨h, 4, none⟩)), (1, .int .i64 (((n : Nat) : Int)))]) Try.func29 rfl Try.ntmps29 rfl rfl ?_
 intro Q hret hnorm hP a hA
 refine wp_seq_k (fun K1 hK1 => ?_)
 refine wp_region_lit ?_
 refine s_new (vs := [.int .i64 (((n : Nat) : Int))]) (t := 3) hA hM rfl rfl rfl (fun g => .pointer (some ⟨g, 0, none⟩)) (does_box rfl rfl) (by decide) ?_
 intro g2 w3 hM a hA
 refine seq_do hA rfl rfl rfl (does_assign rfl) ?_
 intro a hA
 refine seq_do hA rfl rfl rfl (does_assign rfl) ?_
 intro a hA
 refine seq_end ?_
 refine hK1 _ _ ?_
 refine wp_seq_k (fun K4 hK4 => ?_)
 refine wp_region_lit ?_
 refine seq_do hA rfl rfl rfl (does_move rfl) ?_
 intro a hA
 refine seq_do hA rfl rfl rfl (does_nilq rfl) ?_
 intro a hA
 refine seq_do (v := .pointer (some ⟨h, 5, none⟩)) hA rfl rfl rfl (does_field HbB_fld_70_1 rfl rfl) ?_
 intro a hA
 refine seq_do hA rfl rfl rfl (m_load1 hM HbB_is1_68 rfl 1 rfl rfl) ?_
 intro a hA
 refine seq_do (v := .func (.func 46) #[] [.pointer (some ⟨g2, 0, none⟩)].toArray) hA rfl rfl rfl (does_makeFunc rfl) ?_
 intro a hA
 replace hM : Mg w0 w3 (.row 96 2 (.slice (some ⟨gg, 0, none⟩) gl.length lc) gl.length (gapC gl) :: .obj g2 (.cells #[.int .i64 (((n : Nat) : Int))] 3) :: .obj h (.cells #[.map (some m), .int .i64 (((last : Nat) : Int)), .int .i64 (((ss : Nat) : Int)), .slice sg gs.length sc, .int .i64 (((ls : Nat) : Int)), .slice (some ⟨gg, 0, none⟩) gl.length lc] 73) :: .obj m (mapO (os.map Ob.en) last) :: .row 96 2 (.slice sg gs.length sc) gs.length (gapC gs) :: T) := hM.bring 4 rfl rfl
 replace hM : Mg w0 w3 (.obj g2 (.cells #[.int .i64 (((n : Nat) : Int))] 3) :: .row 96 2 (.slice (some ⟨gg, 0, none⟩) gl.length lc) gl.length (gapC gl) :: .obj h (.cells #[.map (some m), .int .i64 (((last : Nat) : Int)), .int .i64 (((ss : Nat) : Int)), .slice sg gs.length sc, .int .i64 (((ls : Nat) : Int)), .slice (some ⟨gg, 0, none⟩) gl.length lc] 73) :: .obj m (mapO (os.map Ob.en) last) :: .row 96 2 (.slice sg gs.length sc) gs.length (gapC gs) :: T) := hM.bring 1 rfl rfl
 refine seq_call hA rfl rfl rfl (enters_func rfl rfl (fun w => by kernel_rfl)) (index_some hgl hM) ?_
 rintro _ w6 ⟨he9, hM5⟩
 rw [show idxZ n gl = ((i : Nat) : Int) from by unfold idxZ; rw [hi]] at he9
 subst he9
 replace hM : Mg w0 w6 (.obj g2 (.cells #[.int .i64 (((n : Nat) : Int))] 3) :: .row 96 2 (.slice (some ⟨gg, 0, none⟩) gl.length lc) gl.length (gapC gl) :: .obj h (.cells #[.map (some m), .int .i64 (((last : Nat) : Int)), .int .i64 (((ss : Nat) : Int)), .slice sg gs.length sc, .int .i64 (((ls : Nat) : Int)), .slice (some ⟨gg, 0, none⟩) gl.length lc] 73) :: .obj m (mapO (os.map Ob.en) last) :: .row 96 2 (.slice sg gs.length sc) gs.length (gapC gs) :: T) := hM5
 refine ⟨_, rfl, ?_⟩
 intro a hA
 refine seq_do hA rfl rfl rfl (does_assign rfl) ?_
 intro a hA
 refine seq_end ?_
 refine hK4 _ _ ?_
 refine wp_seq_k (fun K7 hK7 => ?_)
 refine wp_seq_k (fun K8 hK8 => ?_)
 refine wp_region_lit ?_
 refine seq_do hA rfl rfl rfl (does_move rfl) ?_
 intro a hA
 refine seq_do (v := .bool false) hA rfl rfl rfl (does_bin rfl rfl (fun w => (bin_lss w).trans (by rw [show (decide (((i : Nat) : Int) < 0)) = false from (decide_eq_false (by omega))]))) ?_
 intro a hA
 refine seq_end ?_
 refine hK8 _ _ ?_
 refine wp_cond_false (hA.ev rfl) ?_
 refine wp_skip ?_
 refine hK7 _ _ ?_
 refine wp_seq_k (fun K9 hK9 => ?_)
 refine wp_region_lit ?_
 refine seq_do hA rfl rfl rfl (does_move rfl) ?_
 intro a hA
 refine seq_do hA rfl rfl rfl (does_nilq rfl) ?_
 intro a hA
 refine seq_do (v := .pointer (some ⟨h, 5, none⟩)) hA rfl rfl rfl (does_field HbB_fld_70_1 rfl rfl) ?_
 intro a hA
 refine seq_do hA rfl rfl rfl (m_load1 hM HbB_is1_68 rfl 2 rfl rfl) ?_
 intro a hA
 refine seq_do hA rfl rfl rfl (does_move rfl) ?_
 intro a hA
 refine seq_do (v := .pointer (some ⟨gg, i * 2, none⟩)) hA rfl rfl rfl (does_indexE (k := i) Try.underlying68 (by kernel_rfl) rfl rfl rfl (by omega)) ?_
 intro a hA
 refine seq_do hA rfl rfl rfl (m_loadES (o := i * 2) (cs := [.int .i64 ((p : Nat) : Int), .int .i64 ((s : Nat) : Int)]) hM 1 rfl HbB_isS_96 (gapC_at hat) rfl rfl) ?_
 intro a hA
 refine s_new (vs := [.int .i64 0, .int .i64 0]) (t := 96) hA hM rfl rfl rfl (fun g => .pointer (some ⟨g, 0, none⟩)) (does_alloc (z := .agg #[.int .i64 0, .int .i64 0]) (by kernel_rfl) rfl) (by decide) ?_
 intro g10 w11 hM a hA
 refine s_store (us := [.int .i64 (((p : Nat) : Int)), .int .i64 (((s : Nat) : Int))]) (L' := (.obj g10 (.cells #[.int .i64 (((p : Nat) : Int)), .int .i64 (((s : Nat) : Int))] 96) :: .obj g2 (.cells #[.int .i64 (((n : Nat) : Int))] 3) :: .row 96 2 (.slice (some ⟨gg, 0, none⟩) gl.length lc) gl.length (gapC gl) :: .obj h (.cells #[.map (some m), .int .i64 (((last : Nat) : Int)), .int .i64 (((ss : Nat) : Int)), .slice sg gs.length sc, .int .i64 (((ls : Nat) : Int)), .slice (some ⟨gg, 0, none⟩) gl.length lc] 73) :: .obj m (mapO (os.map Ob.en) last) :: .row 96 2 (.slice sg gs.length sc) gs.length (gapC gs) :: T)) hA hM rfl rfl (m_store rfl rfl rfl (by kernel_rfl) hM 0 rfl rfl rfl) 0 rfl rfl rfl ?_
 intro w12 hM
 refine seq_end ?_
 refine hK9 _ _ ?_
 refine wp_seq_k (fun K13 hK13 => ?_)
 refine wp_draw (S := fun w1 => Mg w0 w1 (.obj g10 (.cells #[.int .i64 (((p : Nat) : Int)), .int .i64 (((s : Nat) : Int))] 96) :: .obj g2 (.cells #[.int .i64 (((n : Nat) : Int))] 3) :: .obj h (.cells #[.map (some m), .int .i64 (((last : Nat) : Int)), .int .i64 (((ss : Nat) : Int)), .slice sg gs.length sc, .int .i64 (((ls : Nat) : Int)), .slice (some ⟨gg, 0, none⟩) gl.length lc] 73) :: [])) (by kernel_rfl) ?_
 replace hM := hM.drew
 refine any_tk hA 0 rfl rfl rfl rfl hP (hM.sub (.cons_cons _ (.cons_cons _ (.cons _ (.cons_cons _ (.cons _ (.cons _ (List.nil_sublist _)))))))) (fun w1 hM => does_move rfl) ?_
 intro a hA
 refine any_tk hA 1 rfl rfl rfl rfl hP (hM.sub (.cons_cons _ (.cons_cons _ (.cons _ (.cons_cons _ (.cons _ (.cons _ (List.nil_sublist _)))))))) (fun w1 hM => does_nilq rfl) ?_
 intro a hA
 refine any_tk (v := .pointer (some ⟨h, 5, none⟩)) hA 2 rfl rfl rfl rfl hP (hM.sub (.cons_cons _ (.cons_cons _ (.cons _ (.cons_cons _ (.cons _ (.cons _ (List.nil_sublist _)))))))) (fun w1 hM => does_field HbB_fld_70_1 rfl rfl) ?_
 intro a hA
 refine any_tk hA 3 rfl rfl rfl rfl hP (hM.sub (.cons_cons _ (.cons_cons _ (.cons _ (.cons_cons _ (.cons _ (.cons _ (List.nil_sublist _)))))))) (fun w1 hM => m_load1 hM HbB_is1_68 rfl 2 rfl rfl) ?_
 intro a hA
 refine any_tk hA 4 rfl rfl rfl rfl hP (hM.sub (.cons_cons _ (.cons_cons _ (.cons _ (.cons_cons _ (.cons _ (.cons _ (List.nil_sublist _)))))))) (fun w1 hM => does_move rfl) ?_
 intro a hA
 refine any_tk (v := .pointer (some ⟨g10, 0, none⟩)) hA 5 rfl rfl rfl rfl hP (hM.sub (.cons_cons _ (.cons_cons _ (.cons _ (.cons_cons _ (.cons _ (.cons _ (List.nil_sublist _)))))))) (fun w1 hM => does_field HbB_fld_96_0 rfl rfl) ?_
 intro a hA
 refine any_tk hA 6 rfl rfl rfl rfl hP (hM.sub (.cons_cons _ (.cons_cons _ (.cons _ (.cons_cons _ (.cons _ (.cons _ (List.nil_sublist _)))))))) (fun w1 hM => m_load1 hM HbB_is1_3 rfl 0 rfl rfl) ?_
 intro a hA
 refine any_tk hA 7 rfl rfl rfl rfl hP (hM.sub (.cons_cons _ (.cons_cons _ (.cons _ (.cons_cons _ (.cons _ (.cons _ (List.nil_sublist _)))))))) (fun w1 hM => m_load1 hM HbB_is1_3 rfl 1 rfl rfl) ?_
 intro a hA
 refine any_tk (v := .int .i64 (((p + n : Nat) : Int))) hA 8 rfl rfl rfl rfl hP (hM.sub (.cons_cons _ (.cons_cons _ (.cons _ (.cons_cons _ (.cons _ (.cons _ (List.nil_sublist _)))))))) (fun w1 hM => does_bin rfl rfl (ar_add ((in_i64 (by omega) (by omega)).trans (by omega)))) ?_
 intro a hA
 refine any_tk (v := .pointer (some ⟨g10, 1, none⟩)) hA 9 rfl rfl rfl rfl hP (hM.sub (.cons_cons _ (.cons_cons _ (.cons _ (.cons_cons _ (.cons _ (.cons _ (List.nil_sublist _)))))))) (fun w1 hM => does_field HbB_fld_96_1 rfl rfl) ?_
 intro a hA
 refine any_tk hA 10 rfl rfl rfl rfl hP (hM.sub (.cons_cons _ (.cons_cons _ (.cons _ (.cons_cons _ (.cons _ (.cons _ (List.nil_sublist _)))))))) (fun w1 hM => m_load1 hM HbB_is1_3 rfl 0 rfl rfl) ?_
 intro a hA
 refine any_tk hA 11 rfl rfl rfl rfl hP (hM.sub (.cons_cons _ (.cons_cons _ (.cons _ (.cons_cons _ (.cons _ (.cons _ (List.nil_sublist _)))))))) (fun w1 hM => m_load1 hM HbB_is1_3 rfl 1 rfl rfl) ?_
 intro a hA
 refine any_tk (v := .int .i64 (((s - n : Nat) : Int))) hA 12 rfl rfl rfl rfl hP (hM.sub (.cons_cons _ (.cons_cons _ (.cons _ (.cons_cons _ (.cons _ (.cons _ (List.nil_sublist _)))))))) (fun w1 hM => does_bin rfl rfl (ar_sub ((in_i64 (by omega) (by omega)).trans (by omega)))) ?_
 intro a hA
 refine any_tk (v := .agg #[.int .i64 (((p + n : Nat) : Int)), .int .i64 (((s - n : Nat) : Int))]) hA 13 rfl rfl rfl rfl hP (hM.sub (.cons_cons _ (.cons_cons _ (.cons _ (.cons_cons _ (.cons _ (.cons _ (List.nil_sublist _)))))))) (fun w1 hM => does_build rfl (fun w => by kernel_rfl)) ?_
 intro a hA
 refine any_tk (v := .pointer (some ⟨gg, i * 2, none⟩)) hA 14 rfl rfl rfl rfl hP (hM.sub (.cons_cons _ (.cons_cons _ (.cons _ (.cons_cons _ (.cons _ (.cons _ (List.nil_sublist _)))))))) (fun w1 hM => does_indexE (k := i) Try.underlying68 (by kernel_rfl) rfl rfl rfl (by omega)) ?_
 intro a hA
 refine any_one (by kernel_rfl) (g_storeE (cs := [.int .i64 (((p + n : Nat) : Int)), .int .i64 (((s - n : Nat) : Int))]) (L' := (.obj g10 (.cells #[.int .i64 (((p : Nat) : Int)), .int .i64 (((s : Nat) : Int))] 96) :: .obj g2 (.cells #[.int .i64 (((n : Nat) : Int))] 3) :: .row 96 2 (.slice (some ⟨gg, 0, none⟩) gl.length lc) gl.length (over (gapC gl) (i * 2) [.int .i64 (((p + n : Nat) : Int)), .int .i64 (((s - n : Nat) : Int))]) :: .obj h (.cells #[.map (some m), .int .i64 (((last : Nat) : Int)), .int .i64 (((ss : Nat) : Int)), .slice sg gs.length sc, .int .i64 (((ls : Nat) : Int)), .slice (some ⟨gg, 0, none⟩) gl.length lc] 73) :: .obj m (mapO (os.map Ob.en) last) :: .row 96 2 (.slice sg gs.length sc) gs.length (gapC gs) :: T)) (us := []) hA hM 15 rfl rfl rfl (m_storeE rfl rfl rfl (by kernel_rfl) hM 2 rfl (by show i * 2 + 2 ≤ _; omega) rfl) 2 rfl rfl ?_)
 intro w14 hM
 replace hM : Mg w0 w14 (.obj g10 (.cells #[.int .i64 (((p : Nat) : Int)), .int .i64 (((s : Nat) : Int))] 96) :: .obj g2 (.cells #[.int .i64 (((n : Nat) : Int))] 3) :: .row 96 2 (.slice (some ⟨gg, 0, none⟩) gl.length lc) gl.length (gapC (gl.set i (p + n, s - n))) :: .obj h (.cells #[.map (some m), .int .i64 (((last : Nat) : Int)), .int .i64 (((ss : Nat) : Int)), .slice sg gs.length sc, .int .i64 (((ls : Nat) : Int)), .slice (some ⟨gg, 0, none⟩) gl.length lc] 73) :: .obj m (mapO (os.map Ob.en) last) :: .row 96 2 (.slice sg gs.length sc) gs.length (gapC gs) :: T) := by rw [gapC_set _ _ hlt] at hM; exact hM
 refine ⟨(hM.sub (.cons_cons _ (.cons_cons _ (.cons _ (.cons_cons _ (.cons _ (.cons _ (List.nil_sublist _)))))))), ?_⟩
 refine any_end (by kernel_rfl) ?_
 refine hK13 _ _ ?_
 refine wp_seq_k (fun K15 hK15 => ?_)
 refine wp_region_lit ?_
 refine seq_do (v := .pointer (some ⟨g10, 0, none⟩)) hA rfl rfl rfl (does_field HbB_fld_96_0 rfl rfl) ?_
 intro a hA
 refine seq_do hA rfl rfl rfl (m_load1 hM HbB_is1_3 rfl 0 rfl rfl) ?_
 intro a hA
 refine seq_do hA rfl rfl rfl (does_assign rfl) ?_
 intro a hA
 refine seq_do hA rfl rfl rfl (does_assign rfl) ?_
 intro a hA
 refine seq_end ?_
 refine hK15 _ _ ?_
 refine wp_ret ?_
 refine hret _ _ ?_
 refine ends (v := .tuple #[.int .i64 (((p : Nat) : Int)), .bool true]) hA rfl (.cons (res_tmp rfl) (.cons (res_tmp rfl) .nil)) rfl ?_
 replace hM : Mg w0 w14 (.row 96 2 (.slice (some ⟨gg, 0, none⟩) gl.length lc) gl.length (gapC (gl.set i (p + n, s - n))) :: .obj g10 (.cells #[.int .i64 (((p : Nat) : Int)), .int .i64 (((s : Nat) : Int))] 96) :: .obj g2 (.cells #[.int .i64 (((n : Nat) : Int))] 3) :: .obj h (.cells #[.map (some m), .int .i64 (((last : Nat) : Int)), .int .i64 (((ss : Nat) : Int)), .slice sg gs.length sc, .int .i64 (((ls : Nat) : Int)), .slice (some ⟨gg, 0, none⟩) gl.length lc] 73) :: .obj m (mapO (os.map Ob.en) last) :: .row 96 2 (.slice sg gs.length sc) gs.length (gapC gs) :: T) := hM.bring 2 rfl rfl
 replace hM : Mg w0 w14 (.row 96 2 (.slice sg gs.length sc) gs.length (gapC gs) :: .row 96 2 (.slice (some ⟨gg, 0, none⟩) gl.length lc) gl.length (gapC (gl.set i (p + n, s - n))) :: .obj g10 (.cells #[.int .i64 (((p : Nat) : Int)), .int .i64 (((s : Nat) : Int))] 96) :: .obj g2 (.cells #[.int .i64 (((n : Nat) : Int))] 3) :: .obj h (.cells #[.map (some m), .int .i64 (((last : Nat) : Int)), .int .i64 (((ss : Nat) : Int)), .slice sg gs.length sc, .int .i64 (((ls : Nat) : Int)), .slice (some ⟨gg, 0, none⟩) gl.length lc] 73) :: .obj m (mapO (os.map Ob.en) last) :: T) := hM.bring 5 rfl rfl
 replace hM : Mg w0 w14 (.obj m (mapO (os.map Ob.en) last) :: .row 96 2 (.slice sg gs.length sc) gs.length (gapC gs) :: .row 96 2 (.slice (some ⟨gg, 0, none⟩) gl.length lc) gl.length (gapC (gl.set i (p + n, s - n))) :: .obj g10 (.cells #[.int .i64 (((p : Nat) : Int)), .int .i64 (((s : Nat) : Int))] 96) :: .obj g2 (.cells #[.int .i64 (((n : Nat) : Int))] 3) :: .obj h (.cells #[.map (some m), .int .i64 (((last : Nat) : Int)), .int .i64 (((ss : Nat) : Int)), .slice sg gs.length sc, .int .i64 (((ls : Nat) : Int)), .slice (some ⟨gg, 0, none⟩) gl.length lc] 73) :: T) := hM.bring 5 rfl rfl
 replace hM : Mg w0 w14 (.obj h (.cells #[.map (some m), .int .i64 (((last : Nat) : Int)), .int .i64 (((ss : Nat) : Int)), .slice sg gs.length sc, .int .i64 (((ls : Nat) : Int)), .slice (some ⟨gg, 0, none⟩) gl.length lc] 73) :: .obj m (mapO (os.map Ob.en) last) :: .row 96 2 (.slice sg gs.length sc) gs.length (gapC gs) :: .row 96 2 (.slice (some ⟨gg, 0, none⟩) gl.length lc) gl.length (gapC (gl.set i (p + n, s - n))) :: .obj g10 (.cells #[.int .i64 (((p : Nat) : Int)), .int .i64 (((s : Nat) : Int))] 96) :: .obj g2 (.cells #[.int .i64 (((n : Nat) : Int))] 3) :: T) := hM.bring 5 rfl rfl
 replace hM : Mg w0 w14 (.obj h (.cells #[.map (some m), .int .i64 (((last : Nat) : Int)), .int .i64 (((ss : Nat) : Int)), .slice sg gs.length sc, .int .i64 (((ls : Nat) : Int)), .slice (some ⟨gg, 0, none⟩) gl.length lc] 73) :: .obj m (mapO (os.map Ob.en) last) :: .row 96 2 (.slice sg gs.length sc) gs.length (gapC gs) :: .row 96 2 (.slice (some ⟨gg, 0, none⟩) gl.length lc) gl.length (gapC (gl.set i (p + n, s - n))) :: T) := by
   have h9 := hM.sub (.cons_cons _ (.cons_cons _ (.cons_cons _ (.cons_cons _ (.cons _ (.cons _ (.refl _)))))))
   exact h9
 exact ⟨rfl, hM⟩
theorem takeL_miss {w0 w : World} {n : Nat} {h m last ss ls sc lc : Nat} {sg lg : Option Addr} {gs gl : List (Nat × Nat)} {os : List Ob} {T : List Ck} (hgl : gl.length ≤ 1000000) (hi : idxG n gl = none) (hM0 : Mg w0 w (.obj h (.cells #[.map (some m), .int .i64 (((last : Nat) : Int)), .int .i64 (((ss : Nat) : Int)), .slice sg gs.length sc, .int .i64 (((ls : Nat) : Int)), .slice lg gl.length lc] 73) :: .obj m (mapO (os.map Ob.en) last) :: .row 96 2 (.slice sg gs.length sc) gs.length (gapC gs) :: .row 96 2 (.slice lg gl.length lc) gl.length (gapC gl) :: T)) : Calls Try.prog 29 #[.pointer (some ⟨h, 4, none⟩), .int .i64 ((n : Nat) : Int)] w fun e w' => e = .returned (.tuple #[.int .i64 0, .bool false]) ∧ Mg w0 w' (.obj h (.cells #[.map (some m), .int .i64 (((last : Nat) : Int)), .int .i64 (((ss : Nat) : Int)), .slice sg gs.length sc, .int .i64 (((ls : Nat) : Int)), .slice lg gl.length lc] 73) :: .obj m (mapO (os.map Ob.en) last) :: .row 96 2 (.slice sg gs.length sc) gs.length (gapC gs) :: .row 96 2 (.slice lg gl.length lc) gl.length (gapC gl) :: T) := by
 have hM : Mg w0 w (.obj h (.cells #[.map (some m), .int .i64 (((last : Nat) : Int)), .int .i64 (((ss : Nat) : Int)), .slice sg gs.length sc, .int .i64 (((ls : Nat) : Int)), .slice lg gl.length lc] 73) :: .obj m (mapO (os.map Ob.en) last) :: .row 96 2 (.slice sg gs.length sc) gs.length (gapC gs) :: .row 96 2 (.slice lg gl.length lc) gl.length (gapC gl) :: T) := hM0
 refine walk_of (l := [(0, .pointer (some ⟨h, 4, none⟩)), (1, .int .i64 (((n : Nat) : Int)))]) Try.func29 rfl Try.ntmps29 rfl rfl ?_
 intro Q hret hnorm hP a hA
 refine wp_seq_k (fun K1 hK1 => ?_)
 refine wp_region_lit ?_
 refine s_new (vs := [.int .i64 (((n : Nat) : Int))]) (t := 3) hA hM rfl rfl rfl (fun g => .pointer (some ⟨g, 0, none⟩)) (does_box rfl rfl) (by decide) ?_
 intro g2 w3 hM a hA
 refine seq_do hA rfl rfl rfl (does_assign rfl) ?_
 intro a hA
 refine seq_do hA rfl rfl rfl (does_assign rfl) ?_
 intro a hA
 refine seq_end ?_
 refine hK1 _ _ ?_
 refine wp_seq_k (fun K4 hK4 => ?_)
 refine wp_region_lit ?_
 refine seq_do hA rfl rfl rfl (does_move rfl) ?_
 intro a hA
 refine seq_do hA rfl rfl rfl (does_nilq rfl) ?_
 intro a hA
 refine seq_do (v := .pointer (some ⟨h, 5, none⟩)) hA rfl rfl rfl (does_field HbB_fld_70_1 rfl rfl) ?_
 intro a hA
 refine seq_do hA rfl rfl rfl (m_load1 hM HbB_is1_68 rfl 1 rfl rfl) ?_
 intro a hA
 refine seq_do (v := .func (.func 46) #[] [.pointer (some ⟨g2, 0, none⟩)].toArray) hA rfl rfl rfl (does_makeFunc rfl) ?_
 intro a hA
 replace hM : Mg w0 w3 (.row 96 2 (.slice lg gl.length lc) gl.length (gapC gl) :: .obj g2 (.cells #[.int .i64 (((n : Nat) : Int))] 3) :: .obj h (.cells #[.map (some m), .int .i64 (((last : Nat) : Int)), .int .i64 (((ss : Nat) : Int)), .slice sg gs.length sc, .int .i64 (((ls : Nat) : Int)), .slice lg gl.length lc] 73) :: .obj m (mapO (os.map Ob.en) last) :: .row 96 2 (.slice sg gs.length sc) gs.length (gapC gs) :: T) := hM.bring 4 rfl rfl
 replace hM : Mg w0 w3 (.obj g2 (.cells #[.int .i64 (((n : Nat) : Int))] 3) :: .row 96 2 (.slice lg gl.length lc) gl.length (gapC gl) :: .obj h (.cells #[.map (some m), .int .i64 (((last : Nat) : Int)), .int .i64 (((ss : Nat) : Int)), .slice sg gs.length sc, .int .i64 (((ls : Nat) : Int)), .slice lg gl.length lc] 73) :: .obj m (mapO (os.map Ob.en) last) :: .row 96 2 (.slice sg gs.length sc) gs.length (gapC gs) :: T) := hM.bring 1 rfl rfl
 refine seq_call hA rfl rfl rfl (enters_func rfl rfl (fun w => by kernel_rfl)) (index_any hgl hM) ?_
 rintro _ w6 ⟨he9, hM5⟩
 rw [show idxZ n gl = -1 from by unfold idxZ; rw [hi]] at he9
 subst he9
 replace hM : Mg w0 w6 (.obj g2 (.cells #[.int .i64 (((n : Nat) : Int))] 3) :: .row 96 2 (.slice lg gl.length lc) gl.length (gapC gl) :: .obj h (.cells #[.map (some m), .int .i64 (((last : Nat) : Int)), .int .i64 (((ss : Nat) : Int)), .slice sg gs.length sc, .int .i64 (((ls : Nat) : Int)), .slice lg gl.length lc] 73) :: .obj m (mapO (os.map Ob.en) last) :: .row 96 2 (.slice sg gs.length sc) gs.length (gapC gs) :: T) := hM5
 refine ⟨_, rfl, ?_⟩
 intro a hA
 refine seq_do hA rfl rfl rfl (does_assign rfl) ?_
 intro a hA
 refine seq_end ?_
 refine hK4 _ _ ?_
 refine wp_seq_k (fun K7 hK7 => ?_)
 refine wp_seq_k (fun K8 hK8 => ?_)
 refine wp_region_lit ?_
 refine seq_do hA rfl rfl rfl (does_move rfl) ?_
 intro a hA
 refine seq_do (v := .bool true) hA rfl rfl rfl (does_bin rfl rfl (fun w => by kernel_rfl)) ?_
 intro a hA
 refine seq_end ?_
 refine hK8 _ _ ?_
 refine wp_cond_true (hA.ev rfl) ?_
 refine wp_seq_k (fun K9 hK9 => ?_)
 refine wp_region_lit ?_
 refine seq_do hA rfl rfl rfl (does_assign rfl) ?_
 intro a hA
 refine seq_do hA rfl rfl rfl (does_assign rfl) ?_
 intro a hA
 refine seq_end ?_
 refine hK9 _ _ ?_
 refine wp_ret ?_
 refine hret _ _ ?_
 refine ends (v := .tuple #[.int .i64 0, .bool false]) hA rfl (.cons (res_tmp rfl) (.cons (res_tmp rfl) .nil)) rfl ?_
 replace hM : Mg w0 w6 (.row 96 2 (.slice lg gl.length lc) gl.length (gapC gl) :: .obj g2 (.cells #[.int .i64 (((n : Nat) : Int))] 3) :: .obj h (.cells #[.map (some m), .int .i64 (((last : Nat) : Int)), .int .i64 (((ss : Nat) : Int)), .slice sg gs.length sc, .int .i64 (((ls : Nat) : Int)), .slice lg gl.length lc] 73) :: .obj m (mapO (os.map Ob.en) last) :: .row 96 2 (.slice sg gs.length sc) gs.length (gapC gs) :: T) := hM.bring 1 rfl rfl
 replace hM : Mg w0 w6 (.row 96 2 (.slice sg gs.length sc) gs.length (gapC gs) :: .row 96 2 (.slice lg gl.length lc) gl.length (gapC gl) :: .obj g2 (.cells #[.int .i64 (((n : Nat) : Int))] 3) :: .obj h (.cells #[.map (some m), .int .i64 (((last : Nat) : Int)), .int .i64 (((ss : Nat) : Int)), .slice sg gs.length sc, .int .i64 (((ls : Nat) : Int)), .slice lg gl.length lc] 73) :: .obj m (mapO (os.map Ob.en) last) :: T) := hM.bring 4 rfl rfl
 replace hM : Mg w0 w6 (.obj m (mapO (os.map Ob.en) last) :: .row 96 2 (.slice sg gs.length sc) gs.length (gapC gs) :: .row 96 2 (.slice lg gl.length lc) gl.length (gapC gl) :: .obj g2 (.cells #[.int .i64 (((n : Nat) : Int))] 3) :: .obj h (.cells #[.map (some m), .int .i64 (((last : Nat) : Int)), .int .i64 (((ss : Nat) : Int)), .slice sg gs.length sc, .int .i64 (((ls : Nat) : Int)), .slice lg gl.length lc] 73) :: T) := hM.bring 4 rfl rfl
 replace hM : Mg w0 w6 (.obj h (.cells #[.map (some m), .int .i64 (((last : Nat) : Int)), .int .i64 (((ss : Nat) : Int)), .slice sg gs.length sc, .int .i64 (((ls : Nat) : Int)), .slice lg gl.length lc] 73) :: .obj m (mapO (os.map Ob.en) last) :: .row 96 2 (.slice sg gs.length sc) gs.length (gapC gs) :: .row 96 2 (.slice lg gl.length lc) gl.length (gapC gl) :: .obj g2 (.cells #[.int .i64 (((n : Nat) : Int))] 3) :: T) := hM.bring 4 rfl rfl
 replace hM : Mg w0 w6 (.obj h (.cells #[.map (some m), .int .i64 (((last : Nat) : Int)), .int .i64 (((ss : Nat) : Int)), .slice sg gs.length sc, .int .i64 (((ls : Nat) : Int)), .slice lg gl.length lc] 73) :: .obj m (mapO (os.map Ob.en) last) :: .row 96 2 (.slice sg gs.length sc) gs.length (gapC gs) :: .row 96 2 (.slice lg gl.length lc) gl.length (gapC gl) :: T) := by
   have h9 := hM.sub (.cons_cons _ (.cons_cons _ (.cons_cons _ (.cons_cons _ (.cons _ (.refl _))))))
   exact h9
 exact ⟨rfl, hM⟩
end Go.Proofs.Ytcigofjajphmjaa
