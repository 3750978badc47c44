/- Walks of rows of texts: collected, sorted, copied. -/
import Derived.Test.YtbdhfooeanbnlaaEe
namespace Go.Proofs.Ytbdhfooeanbnlaa
open Go.RowKit Go.Lib Go.Sort
set_option linter.unusedVariables false
set_option linter.unusedSimpArgs false
set_option maxRecDepth 100000
theorem EnA_is1_9 : Is1 Try.prog 9 := ⟨⟨_, Try.underlying9, rfl⟩, by kernel_rfl⟩
theorem collect_any {w : World} {Bs : Nat} {so : Option Addr} {ca : Nat} {l : List ByteArray} (hR : Rs w so l) (hBs : w.cell? ⟨Bs, 0, none⟩ = some (.slice so l.length ca)) (hl : l.length ≤ 8796093021952) : Calls Try.prog 53 #[.func (.func 55) #[] [.pointer (some ⟨Bs, 0, none⟩)].toArray] w fun e w' => ∃ so' ca', e = .returned (.slice so' l.length ca') ∧ Mg w w' [.row 9 1 (.slice so' l.length ca') l.length (strC l)] := by
 have hM : Mg w w ([]) := Mg.start w
 refine walk_of (l := [(0, .func (.func 55) #[] [.pointer (some ⟨Bs, 0, none⟩)].toArray)]) Try.func53 rfl Try.ntmps53 rfl rfl ?_
 intro Q hret hnorm hP a hA
 refine wp_seq_k (fun K1 hK1 => ?_)
 refine wp_region_lit ?_
 refine seq_do hA rfl rfl rfl (does_assign rfl) ?_
 intro a hA
 refine seq_end ?_
 refine hK1 _ _ ?_
 refine wp_seq_k (fun K2 hK2 => ?_)
 refine wp_region_lit ?_
 refine seq_do hA rfl rfl rfl (does_move rfl) ?_
 intro a hA
 refine seq_call hA rfl rfl rfl (enters_func rfl rfl (fun w => by kernel_rfl)) (appendSeq_any (hR.below hM.bel) ((hM.bel.cell (cell_ltE hBs)).trans hBs) hl) ?_
 rintro _ w7 ⟨v3, rfl, hM4⟩
 obtain ⟨so5, ca6, rfl⟩ := owns_any (hM4.has 0 rfl)
 replace hM : Mg w w7 (.row 9 1 (.slice so5 l.length ca6) l.length (strC l) :: []) := (hM.both hM4 (noBld_quiet quietL_nil) (noBld_cons (by simp) (noBld_quiet quietL_nil)))
 refine ⟨_, rfl, ?_⟩
 intro a hA
 refine seq_do hA rfl rfl rfl (does_assign rfl) ?_
 intro a hA
 refine seq_end ?_
 refine hK2 _ _ ?_
 refine wp_ret ?_
 refine hret _ _ ?_
 refine ends (v := .slice so5 l.length ca6) hA rfl (.cons (res_tmp rfl) .nil) rfl ?_
 replace hM : Mg w w7 (.row 9 1 (.slice so5 l.length ca6) l.length (strC l) :: []) := by
   have h9 := hM.sub (.cons_cons _ (.refl _))
   exact h9
 exact ⟨_, _, rfl, hM⟩
theorem sorted_any {w : World} {Bs : Nat} {so : Option Addr} {ca : Nat} {l : List ByteArray} (hR : Rs w so l) (hBs : w.cell? ⟨Bs, 0, none⟩ = some (.slice so l.length ca)) (hl : l.length ≤ 8796093021952) : Calls Try.prog 44 #[.func (.func 55) #[] [.pointer (some ⟨Bs, 0, none⟩)].toArray] w fun e w' => ∃ so' ca', e = .returned (.slice so' l.length ca') ∧ Mg w w' [.row 9 1 (.slice so' l.length ca') l.length ((srtL (byL l)).map encStr)] := by
 have hM : Mg w w ([]) := Mg.start w
 refine walk_of (l := [(0, .func (.func 55) #[] [.pointer (some ⟨Bs, 0, none⟩)].toArray)]) Try.func44 rfl Try.ntmps44 rfl rfl ?_
 intro Q hret hnorm hP a hA
 refine wp_seq_k (fun K1 hK1 => ?_)
 refine wp_region_lit ?_
 refine seq_do hA rfl rfl rfl (does_assign rfl) ?_
 intro a hA
 refine seq_end ?_
 refine hK1 _ _ ?_
 refine wp_seq_k (fun K2 hK2 => ?_)
 refine wp_region_lit ?_
 refine seq_do hA rfl rfl rfl (does_move rfl) ?_
 intro a hA
 refine seq_call hA rfl rfl rfl (enters_func rfl rfl (fun w => by kernel_rfl)) (collect_any (hR.below hM.bel) ((hM.bel.cell (cell_ltE hBs)).trans hBs) hl) ?_
 rintro _ w6 ⟨so3, ca4, rfl, hM5⟩
 replace hM : Mg w w6 (.row 9 1 (.slice so3 l.length ca4) l.length (strC l) :: []) := (hM.both hM5 (noBld_quiet quietL_nil) (noBld_cons (by simp) (noBld_quiet quietL_nil)))
 refine ⟨_, rfl, ?_⟩
 intro a hA
 refine seq_do hA rfl rfl rfl (does_assign rfl) ?_
 intro a hA
 refine seq_end ?_
 refine hK2 _ _ ?_
 refine wp_seq_k (fun K7 hK7 => ?_)
 refine wp_region_lit ?_
 refine seq_do hA rfl rfl rfl (does_move rfl) ?_
 intro a hA
 replace hM : Mg w w6 (.row 9 1 (.slice so3 l.length ca4) l.length ((byL l).map encStr) :: []) := by rw [enc_byL]; exact hM
 refine seq_call hA rfl rfl rfl (enters_func rfl rfl (fun w => by kernel_rfl)) (sortS_any (zs := byL l) (by simp [byL]) (by simpa [byL] using hl) hM) ?_
 rintro _ w9 ⟨rfl, hM8⟩
 replace hM : Mg w w9 (.row 9 1 (.slice so3 l.length ca4) l.length ((srtL (byL l)).map encStr) :: []) := hM8
 refine ⟨_, rfl, ?_⟩
 intro a hA
 refine seq_end ?_
 refine hK7 _ _ ?_
 refine wp_seq_k (fun K10 hK10 => ?_)
 refine wp_region_lit ?_
 refine seq_do hA rfl rfl rfl (does_move rfl) ?_
 intro a hA
 refine seq_do hA rfl rfl rfl (does_assign rfl) ?_
 intro a hA
 refine seq_end ?_
 refine hK10 _ _ ?_
 refine wp_ret ?_
 refine hret _ _ ?_
 refine ends (v := .slice so3 l.length ca4) hA rfl (.cons (res_tmp rfl) .nil) rfl ?_
 replace hM : Mg w w9 (.row 9 1 (.slice so3 l.length ca4) l.length ((srtL (byL l)).map encStr) :: []) := by
   have h9 := hM.sub (.cons_cons _ (.refl _))
   exact h9
 exact ⟨_, _, rfl, hM⟩
theorem twice_any {w : World} {so : Option Addr} {ca : Nat} {l : List ByteArray} (hR : Rs w so l) (hl : l.length ≤ 8796093021952) : Calls Try.prog 27 #[.slice so l.length ca] w fun e w' => e = .returned (.bool (twS l)) ∧ Below w.heap.size w w' := by
 have hM : Mg w w ([]) := Mg.start w
 refine walk_of (l := [(0, .slice so l.length ca)]) Try.func27 rfl Try.ntmps27 rfl rfl ?_
 intro Q hret hnorm hP a hA
 refine wp_seq_k (fun K1 hK1 => ?_)
 refine wp_region_lit ?_
 refine seq_do hA rfl rfl rfl (does_assign rfl) ?_
 intro a hA
 refine seq_end ?_
 refine hK1 _ _ ?_
 refine wp_seq_k (fun K2 hK2 => ?_)
 refine wp_region_lit ?_
 refine seq_do hA rfl rfl rfl (does_move rfl) ?_
 intro a hA
 refine seq_call hA rfl rfl rfl (enters_func rfl rfl (fun w => by kernel_rfl)) (values_any) ?_
 rintro _ w5 ⟨g3, rfl, hM4⟩
 replace hM : Mg w w5 (.obj g3 (.cells #[.slice so l.length ca] 22) :: []) := (hM.both hM4 (noBld_quiet quietL_nil) (noBld_cons (by simp) (noBld_quiet quietL_nil)))
 refine ⟨_, rfl, ?_⟩
 intro a hA
 refine seq_call hA rfl rfl rfl (enters_func rfl rfl (fun w => by kernel_rfl)) (sorted_any (hR.below hM.bel) (hM.cell 0 rfl 0 rfl) hl) ?_
 rintro _ w9 ⟨so6, ca7, rfl, hM8⟩
 replace hM : Mg w w9 (.row 9 1 (.slice so6 l.length ca7) l.length ((srtL (byL l)).map encStr) :: .obj g3 (.cells #[.slice so l.length ca] 22) :: []) := (hM.both hM8 (noBld_cons (by simp) (noBld_quiet quietL_nil)) (noBld_cons (by simp) (noBld_quiet quietL_nil)))
 refine ⟨_, rfl, ?_⟩
 intro a hA
 refine seq_do hA rfl rfl rfl (does_assign rfl) ?_
 intro a hA
 refine seq_end ?_
 refine hK2 _ _ ?_
 refine wp_seq_k (fun K10 hK10 => ?_)
 refine wp_region_lit ?_
 refine seq_do hA rfl rfl rfl (does_move rfl) ?_
 intro a hA
 refine seq_call hA rfl rfl rfl (enters_func rfl rfl (fun w => by kernel_rfl)) (compactS_any (zs := srtL (byL l)) (by simp [srtL, byL]) (by simpa [srtL, byL] using hl) hM) ?_
 rintro _ w12 ⟨rfl, hM11⟩
 replace hM : Mg w w12 (.obj g3 (.cells #[.slice so l.length ca] 22) :: []) := hM11
 refine ⟨_, rfl, ?_⟩
 intro a hA
 refine seq_do (v := .int .i64 ((((compact (srtL (byL l))).length : Nat) : Int))) hA rfl rfl rfl (does_len Try.underlying22 rfl) ?_
 intro a hA
 refine seq_do hA rfl rfl rfl (does_move rfl) ?_
 intro a hA
 refine seq_do (v := .int .i64 (((l.length : Nat) : Int))) hA rfl rfl rfl (does_len Try.underlying22 rfl) ?_
 intro a hA
 refine seq_do (v := .bool (decide ((((compact (srtL (byL l))).length : Nat) : Int) < ((l.length : Nat) : Int)))) hA rfl rfl rfl (does_bin rfl rfl bin_lss) ?_
 intro a hA
 refine seq_do hA rfl rfl rfl (does_assign rfl) ?_
 intro a hA
 refine seq_end ?_
 refine hK10 _ _ ?_
 refine wp_ret ?_
 refine hret _ _ ?_
 refine ends (v := .bool (decide ((((compact (srtL (byL l))).length : Nat) : Int) < ((l.length : Nat) : Int)))) hA rfl (.cons (res_tmp rfl) .nil) rfl ?_
 refine ⟨?_, hM.bel⟩
 rw [← twice_sorted l]
 congr 2
 exact decide_eq_decide.2 Int.ofNat_lt
theorem clS_w {w : World} {so : Option Addr} {ca : Nat} {l : List ByteArray} (hR : Rs w so l) (hl : l.length ≤ 8796093021952) : Calls Try.prog 48 #[.slice so l.length ca] w fun e w' => ∃ v, e = .returned v ∧ Mg w w' [.row 9 1 v l.length (strC l)] := by
 have hM : Mg w w ([]) := Mg.start w
 refine walk_of (l := [(0, .slice so l.length ca)]) Try.func48 rfl Try.ntmps48 rfl rfl ?_
 intro Q hret hnorm hP a hA
 refine wp_seq_k (fun K1 hK1 => ?_)
 refine wp_region_lit ?_
 refine seq_do hA rfl rfl rfl (does_assign rfl) ?_
 intro a hA
 refine seq_end ?_
 refine hK1 _ _ ?_
 refine wp_seq_k (fun K2 hK2 => ?_)
 refine wp_region_lit ?_
 refine seq_do hA rfl rfl rfl (does_move rfl) ?_
 intro a hA
 replace hM := hM.nilRow (noBld_quiet quietL_nil) 9 1
 refine s_appendE (e := 9) (sz := 1) (k := 0) (q := 0) (m := l.length) (xs := []) (news := strC l) (L' := fun v3 => (.row 9 1 (v3) (0 + l.length) ([] ++ strC l) :: [])) hA rfl rfl rfl (m_appX (z := .string ⟨#[]⟩) (sz := 1) (by_ := 16) Try.underlying22 (by kernel_rfl) rfl rfl rfl hM 0 rfl rfl rfl (strC_n l) (hR.below hM.bel) (strC_one l) (by omega)) (fun _ => rfl) ?_
 intro v3 w4 hM a hA
 refine seq_do hA rfl rfl rfl (does_assign rfl) ?_
 intro a hA
 refine seq_end ?_
 refine hK2 _ _ ?_
 refine wp_ret ?_
 refine hret _ _ ?_
 refine ends (v := v3) hA rfl (.cons (res_tmp rfl) .nil) rfl ?_
 exact ⟨_, rfl, by rw [Nat.zero_add, List.nil_append] at hM; exact hM⟩
theorem clone_any {w : World} {s : ByteArray} (hs : s.size ≤ 281474976710656) : Calls Try.prog 49 #[.string s] w fun e w' => e = .returned (.string s) ∧ Below w.heap.size w w' := by
 have hM : Mg w w ([]) := Mg.start w
 refine walk_of (l := [(0, .string s)]) Try.func49 rfl Try.ntmps49 rfl rfl ?_
 intro Q hret hnorm hP a hA
 refine wp_seq_k (fun K1 hK1 => ?_)
 refine wp_region_lit ?_
 refine seq_do hA rfl rfl rfl (does_assign rfl) ?_
 intro a hA
 refine seq_end ?_
 refine hK1 _ _ ?_
 refine wp_seq_k (fun K2 hK2 => ?_)
 refine wp_region_lit ?_
 refine seq_do hA rfl rfl rfl (does_move rfl) ?_
 intro a hA
 refine seq_call hA rfl rfl rfl (enters_func rfl rfl (fun w => by kernel_rfl)) (Try.stringslite_Clone s _ hs) ?_
 rintro _ w3 ⟨rfl, hb1⟩
 replace hM := hM.call hb1
 refine ⟨_, rfl, ?_⟩
 intro a hA
 refine seq_do hA rfl rfl rfl (does_assign rfl) ?_
 intro a hA
 refine seq_end ?_
 refine hK2 _ _ ?_
 refine wp_ret ?_
 refine hret _ _ ?_
 refine ends (v := .string s) hA rfl (.cons (res_tmp rfl) .nil) rfl ?_
 exact ⟨rfl, hM.bel⟩
theorem strC_same {l : List ByteArray} {i : Nat} {s : ByteArray} (h : l[i]? = some s) : (strC l).set i (.string s) = strC l := by
  apply List.ext_getElem?
  intro j
  rw [List.getElem?_set]
  by_cases e : i = j
  · subst e
    have h2 := (List.getElem?_eq_some_iff.1 h).1
    rw [if_pos rfl, if_pos (by simpa [strC] using h2)]
    simp [strC, h]
  · rw [if_neg e]
theorem texts_cons {w : World} {so : Option Addr} {ca : Nat} {l : List ByteArray} (hR : Rs w so l) (hl : l.length ≤ 8796093021952) (hs : ∀ s ∈ l, s.size ≤ 281474976710656) (hne : l ≠ []) : Calls Try.prog 34 #[.slice so l.length ca] w fun e w' => ∃ so' ca', e = .returned (.slice so' l.length ca') ∧ Mg w w' [.row 9 1 (.slice so' l.length ca') l.length (strC l)] := by
 have hM : Mg w w ([]) := Mg.start w
 refine walk_of (l := [(0, .slice so l.length ca)]) Try.func34 rfl Try.ntmps34 rfl rfl ?_
 intro Q hret hnorm hP a hA
 refine wp_seq_k (fun K1 hK1 => ?_)
 refine wp_region_lit ?_
 refine seq_do hA rfl rfl rfl (does_assign rfl) ?_
 intro a hA
 refine seq_end ?_
 refine hK1 _ _ ?_
 refine wp_seq_k (fun K2 hK2 => ?_)
 refine wp_region_lit ?_
 refine seq_do hA rfl rfl rfl (does_move rfl) ?_
 intro a hA
 refine seq_call hA rfl rfl rfl (enters_func rfl rfl (fun w => by kernel_rfl)) (clS_w (hR.below hM.bel) hl) ?_
 rintro _ w4 ⟨v9, rfl, hM3⟩
 obtain ⟨g9, c9, rfl⟩ := row_open (hM3.has 0 rfl) (fun k => hne (List.length_eq_zero_iff.1 k))
 replace hM : Mg w w4 (.row 9 1 (.slice (some ⟨g9, 0, none⟩) l.length c9) l.length (strC l) :: []) := hM3
 refine ⟨_, rfl, ?_⟩
 intro a hA
 refine seq_do hA rfl rfl rfl (does_assign rfl) ?_
 intro a hA
 refine seq_end ?_
 refine hK2 _ _ ?_
 refine wp_seq_k (fun K5 hK5 => ?_)
 refine wp_seq_k (fun K6 hK6 => ?_)
 refine wp_region_lit ?_
 refine seq_do hA rfl rfl rfl (does_move rfl) ?_
 intro a hA
 refine seq_do (v := .int .i64 (((l.length : Nat) : Int))) hA rfl rfl rfl (does_len Try.underlying22 rfl) ?_
 intro a hA
 refine seq_do hA rfl rfl rfl (does_move rfl) ?_
 intro a hA
 refine seq_end ?_
 refine hK6 _ _ ?_
 refine wp_block ?_
 refine wp_loop_n (fun m_ a w1 => ∃ (i : Nat), m_ = 1 + (l.length - i) ∧ (i ≤ l.length) ∧ Sl a 22 [(0, .slice so l.length ca), (2, .slice none 0 0), (3, .slice (some ⟨g9, 0, none⟩) l.length c9), (6, .slice so l.length ca), (7, .slice (some ⟨g9, 0, none⟩) l.length c9), (8, .slice (some ⟨g9, 0, none⟩) l.length c9), (9, .int .i64 (((l.length : Nat) : Int))), (10, .int .i64 (((i : Nat) : Int)))] ∧ Mg w w1 (.row 9 1 (.slice (some ⟨g9, 0, none⟩) l.length c9) l.length (strC l) :: [])) _ ⟨0, rfl, Nat.zero_le _, hA.keep _ ⟨rfl, rfl, rfl, rfl, rfl, rfl, rfl, rfl, trivial⟩, hM⟩ ?_
 clear hM hA
 rintro m_ a w7 ⟨i, rfl, hinv9, hA, hM⟩ K8 hK8
 have hi0 := hinv9
 refine wp_seq_k (fun K10 hK10 => ?_)
 refine wp_region_lit ?_
 rcases Bool.eq_false_or_eq_true (decide (((i : Nat) : Int) < ((l.length : Nat) : Int))) with hb11 | hb11
 · have hb11' := of_decide_eq_true hb11
   refine seq_do (v := .bool true) hA rfl rfl rfl (does_bin rfl rfl (fun w => (bin_lss w).trans (by rw [hb11]))) ?_
   intro a hA
   refine seq_end ?_
   refine hK10 _ _ ?_
   refine wp_seq_k (fun K12 hK12 => ?_)
   refine wp_cond_true (hA.ev rfl) ?_
   refine wp_skip ?_
   refine hK12 _ _ ?_
   refine wp_seq_k (fun K13 hK13 => ?_)
   refine wp_block ?_
   refine wp_seq_k (fun K14 hK14 => ?_)
   obtain ⟨s9, it9⟩ : ∃ s, l[i]? = some s := ⟨l[i], List.getElem?_eq_getElem (by omega)⟩
   refine wp_region_lit ?_
   refine seq_do hA rfl rfl rfl (does_move rfl) ?_
   intro a hA
   refine seq_do (v := .pointer (some ⟨g9, i * 1, none⟩)) hA rfl rfl rfl (does_indexE (k := i) Try.underlying22 (by kernel_rfl) rfl rfl (by first | rfl | omega) (by first | omega | decide)) ?_
   intro a hA
   refine seq_do hA rfl rfl rfl (m_loadE hM 0 rfl (show (strC l)[i * 1]? = some (.string s9) by rw [Nat.mul_one]; simp [strC, it9]) EnA_is1_9 rfl) ?_
   intro a hA
   refine seq_do hA rfl rfl rfl (does_assign rfl) ?_
   intro a hA
   refine seq_do hA rfl rfl rfl (does_assign rfl) ?_
   intro a hA
   refine seq_end ?_
   refine hK14 _ _ ?_
   refine wp_region_lit ?_
   refine seq_do hA rfl rfl rfl (does_move rfl) ?_
   intro a hA
   refine seq_do hA rfl rfl rfl (does_move rfl) ?_
   intro a hA
   refine seq_do hA rfl rfl rfl (does_move rfl) ?_
   intro a hA
   refine seq_call hA rfl rfl rfl (enters_func rfl rfl (fun w => by kernel_rfl)) (clone_any (hs _ (List.mem_of_getElem? it9))) ?_
   rintro _ w15 ⟨rfl, hb9⟩
   replace hM := hM.call hb9
   refine ⟨_, rfl, ?_⟩
   intro a hA
   refine seq_do (v := .pointer (some ⟨g9, i * 1, none⟩)) hA rfl rfl rfl (does_indexE (k := i) Try.underlying22 (by kernel_rfl) rfl rfl (by first | rfl | omega) (by first | omega | decide)) ?_
   intro a hA
   refine s_storeE (us := []) (L' := (.row 9 1 (.slice (some ⟨g9, 0, none⟩) l.length c9) l.length (strC l) :: [])) hA hM rfl rfl (m_storeE (cs := [.string s9]) rfl rfl rfl (by kernel_rfl) hM 0 rfl (by show _ + 1 ≤ _; omega) rfl) 0 rfl (by rw [over_one (by rw [Nat.mul_one]; simp [strC]; omega), Nat.mul_one, strC_same it9]; rfl) ?_
   intro w16 hM
   refine seq_end ?_
   refine hK13 _ _ ?_
   refine wp_region_lit ?_
   refine seq_do (v := .int .i64 (((i + 1 : Nat) : Int))) hA rfl rfl rfl (does_bin rfl rfl (ar_add ((in_i64 (by omega) (by omega)).trans (by omega)))) ?_
   intro a hA
   refine seq_do hA rfl rfl rfl (does_move rfl) ?_
   intro a hA
   refine seq_end ?_
   refine hK8 _ _ _ (by omega) ⟨i + 1, rfl, by omega, hA.keep _ ⟨rfl, rfl, rfl, rfl, rfl, rfl, rfl, rfl, trivial⟩, hM⟩
 · have hb11' := of_decide_eq_false hb11
   refine seq_do (v := .bool false) hA rfl rfl rfl (does_bin rfl rfl (fun w => (bin_lss w).trans (by rw [hb11]))) ?_
   intro a hA
   refine seq_end ?_
   refine hK10 _ _ ?_
   refine wp_seq_k (fun K17 hK17 => ?_)
   refine wp_cond_false (hA.ev rfl) ?_
   refine wp_exit ?_
   refine hK5 _ _ ?_
   refine wp_seq_k (fun K18 hK18 => ?_)
   refine wp_region_lit ?_
   refine seq_do hA rfl rfl rfl (does_move rfl) ?_
   intro a hA
   refine seq_do hA rfl rfl rfl (does_assign rfl) ?_
   intro a hA
   refine seq_end ?_
   refine hK18 _ _ ?_
   refine wp_ret ?_
   refine hret _ _ ?_
   refine ends (v := .slice (some ⟨g9, 0, none⟩) l.length c9) hA rfl (.cons (res_tmp rfl) .nil) rfl ?_
   exact ⟨_, _, rfl, hM⟩
theorem texts_nil {w : World} {so : Option Addr} {ca : Nat} : Calls Try.prog 34 #[.slice so ([] : List ByteArray).length ca] w fun e w' => ∃ so' ca', e = .returned (.slice so' ([] : List ByteArray).length ca') ∧ Mg w w' [.row 9 1 (.slice so' ([] : List ByteArray).length ca') ([] : List ByteArray).length (strC [])] := by
 have hM : Mg w w ([]) := Mg.start w
 refine walk_of (l := [(0, .slice so (([] : List ByteArray).length) ca)]) Try.func34 rfl Try.ntmps34 rfl rfl ?_
 intro Q hret hnorm hP a hA
 refine wp_seq_k (fun K1 hK1 => ?_)
 refine wp_region_lit ?_
 refine seq_do hA rfl rfl rfl (does_assign rfl) ?_
 intro a hA
 refine seq_end ?_
 refine hK1 _ _ ?_
 refine wp_seq_k (fun K2 hK2 => ?_)
 refine wp_region_lit ?_
 refine seq_do hA rfl rfl rfl (does_move rfl) ?_
 intro a hA
 refine seq_call hA rfl rfl rfl (enters_func rfl rfl (fun w => by kernel_rfl)) (clS_w (l := []) rs_nil (by decide)) ?_
 rintro _ w4 ⟨v9, rfl, hM3⟩
 obtain ⟨so9, c9, rfl⟩ := owns_any (hM3.has 0 rfl)
 replace hM : Mg w w4 (.row 9 1 (.slice so9 (([] : List ByteArray).length) c9) (([] : List ByteArray).length) (strC []) :: []) := hM3
 refine ⟨_, rfl, ?_⟩
 intro a hA
 refine seq_do hA rfl rfl rfl (does_assign rfl) ?_
 intro a hA
 refine seq_end ?_
 refine hK2 _ _ ?_
 refine wp_seq_k (fun K5 hK5 => ?_)
 refine wp_seq_k (fun K6 hK6 => ?_)
 refine wp_region_lit ?_
 refine seq_do hA rfl rfl rfl (does_move rfl) ?_
 intro a hA
 refine seq_do (v := .int .i64 (((([] : List ByteArray).length : Nat) : Int))) hA rfl rfl rfl (does_len Try.underlying22 rfl) ?_
 intro a hA
 refine seq_do hA rfl rfl rfl (does_move rfl) ?_
 intro a hA
 refine seq_end ?_
 refine hK6 _ _ ?_
 refine wp_block ?_
 refine wp_loop_rounds 12 ?_
 refine rounds_k (fun K7 hK7 => ?_)
 refine wp_seq_k (fun K8 hK8 => ?_)
 refine wp_region_lit ?_
 refine seq_do (v := .bool false) hA rfl rfl rfl (does_bin rfl rfl (fun w => (bin_lss w).trans (by rw [show (decide (0 < ((([] : List ByteArray).length : Nat) : Int))) = false from (by rfl)]))) ?_
 intro a hA
 refine seq_end ?_
 refine hK8 _ _ ?_
 refine wp_seq_k (fun K9 hK9 => ?_)
 refine wp_cond_false (hA.ev rfl) ?_
 refine wp_exit ?_
 refine hK5 _ _ ?_
 refine wp_seq_k (fun K10 hK10 => ?_)
 refine wp_region_lit ?_
 refine seq_do hA rfl rfl rfl (does_move rfl) ?_
 intro a hA
 refine seq_do hA rfl rfl rfl (does_assign rfl) ?_
 intro a hA
 refine seq_end ?_
 refine hK10 _ _ ?_
 refine wp_ret ?_
 refine hret _ _ ?_
 refine ends (v := .slice so9 (([] : List ByteArray).length) c9) hA rfl (.cons (res_tmp rfl) .nil) rfl ?_
 exact ⟨_, _, rfl, hM⟩
theorem texts_any {w : World} {so : Option Addr} {ca : Nat} {l : List ByteArray} (hR : Rs w so l) (hl : l.length ≤ 8796093021952) (hs : ∀ s ∈ l, s.size ≤ 281474976710656) : Calls Try.prog 34 #[.slice so l.length ca] w fun e w' => ∃ so' ca', e = .returned (.slice so' l.length ca') ∧ Mg w w' [.row 9 1 (.slice so' l.length ca') l.length (strC l)] := by
  by_cases h : l = []
  · subst h; exact texts_nil
  · exact texts_cons hR hl hs h
end Go.Proofs.Ytbdhfooeanbnlaa
