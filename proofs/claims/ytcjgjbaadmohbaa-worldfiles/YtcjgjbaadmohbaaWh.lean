/- Walks of the document's Same and Copy. -/
import Derived.Test.YtcjgjbaadmohbaaWg
namespace Go.Proofs.Ytcjgjbaadmohbaa
open Go.RowKit
set_option linter.unusedVariables false
set_option linter.unusedSimpArgs false
set_option maxRecDepth 100000
theorem Wh_is1_24 : Is1 Try.prog 24 := ⟨⟨_, Try.underlying24, rfl⟩, by kernel_rfl⟩
theorem Wh_is1_35 : Is1 Try.prog 35 := ⟨⟨_, Try.underlying35, rfl⟩, by kernel_rfl⟩
theorem Wh_is1_9 : Is1 Try.prog 9 := ⟨⟨_, Try.underlying9, rfl⟩, by kernel_rfl⟩
theorem Wh_fld_37_0 : FieldAt Try.prog 37 0 0 := ⟨_, _, Try.underlying37, rfl, rfl, by kernel_rfl⟩
theorem Wh_fld_37_1 : FieldAt Try.prog 37 1 1 := ⟨_, _, Try.underlying37, rfl, rfl, by kernel_rfl⟩
theorem Wh_fld_37_2 : FieldAt Try.prog 37 2 2 := ⟨_, _, Try.underlying37, rfl, rfl, by kernel_rfl⟩
theorem Wh_fld_88_0 : FieldAt Try.prog 88 0 0 := ⟨_, _, Try.underlying88, rfl, rfl, by kernel_rfl⟩
theorem Wh_fld_88_1 : FieldAt Try.prog 88 1 1 := ⟨_, _, Try.underlying88, rfl, rfl, by kernel_rfl⟩
theorem Wh_isS_37 : IsS Try.prog 37 3 := ⟨⟨_, Try.underlying37⟩, by kernel_rfl⟩
theorem files_eq {fs gf : List Fl} (hl : fs.length = gf.length) (h : ∀ j, j < fs.length → fs[j]? = gf[j]?) : fs = gf := by
  apply List.ext_getElem?
  intro j
  by_cases hj : j < fs.length
  · exact h j hj
  · rw [List.getElem?_eq_none (by omega), List.getElem?_eq_none (by omega)]
theorem files_more {fs gf : List Fl} {i : Nat} {fn : ByteArray} {fd : List UInt8} {gn : ByteArray} {gd : List UInt8} (h : ∀ j, j < i → fs[j]? = gf[j]?) (h1 : fs[i]? = some (fn, fd)) (h2 : gf[i]? = some (gn, gd)) (h3 : fn = gn) (h4 : fd = gd) : ∀ j, j < i + 1 → fs[j]? = gf[j]? := by
  intro j hj
  by_cases e : j = i
  · subst e; rw [h1, h2, h3, h4]
  · exact h j (by omega)
theorem rsame_any {w : World} {sF sI sO : Option Addr} {cF_ cI cO : Nat} {fs : List Fl} {il ol : List UInt8} {sG sJ sK : Option Addr} {cG cJ cK : Nat} {gf : List Fl} {jl kl : List UInt8} (hF : Rf w sF fs) (hI : Rb w sI il) (hO : Rb w sO ol) (hG : Rf w sG gf) (hJ_ : Rb w sJ jl) (hK_ : Rb w sK kl) (hBd : Bd fs il ol) (hn2 : gf.length ≤ 4398046511104) : Calls Try.prog 29 #[.agg #[.slice sF fs.length cF_, .slice sI il.length cI, .slice sO ol.length cO], .agg #[.slice sG gf.length cG, .slice sJ jl.length cJ, .slice sK kl.length cK]] w fun e w' => e = .returned (.bool (decide (fs = gf ∧ il = jl ∧ ol = kl))) ∧ Below w.heap.size w w' := by
 have hn := hBd.n
 obtain ⟨hB1, hB2, hB3, hB4⟩ := hBd
 have hBd : Bd fs il ol := ⟨hB1, hB2, hB3, hB4⟩
 have hM : Mg w w ([]) := Mg.start w
 refine walk_of (l := [(0, .agg #[.slice sF fs.length cF_, .slice sI il.length cI, .slice sO ol.length cO]), (1, .agg #[.slice sG gf.length cG, .slice sJ jl.length cJ, .slice sK kl.length cK])]) Try.func29 rfl Try.ntmps29 rfl rfl ?_
 intro Q hret hnorm hP a hA
 refine wp_seq_k (fun K1 hK1 => ?_)
 refine wp_region_lit ?_
 refine s_new (vs := [.slice sF fs.length cF_, .slice sI il.length cI, .slice sO ol.length cO]) (t := 37) hA hM rfl rfl rfl (fun g => .pointer (some ⟨g, 0, none⟩)) (does_box rfl rfl) (by decide) ?_
 intro g2 w3 hM a hA
 refine s_new (vs := [.slice sG gf.length cG, .slice sJ jl.length cJ, .slice sK kl.length cK]) (t := 37) hA hM rfl rfl rfl (fun g => .pointer (some ⟨g, 0, none⟩)) (does_box rfl rfl) (by decide) ?_
 intro g4 w5 hM a hA
 refine seq_do hA rfl rfl rfl (does_assign rfl) ?_
 intro a hA
 refine seq_end ?_
 refine hK1 _ _ ?_
 refine wp_seq_k (fun K6 hK6 => ?_)
 refine wp_seq_k (fun K7 hK7 => ?_)
 refine wp_region_lit ?_
 refine seq_do (v := .pointer (some ⟨g2, 0, none⟩)) hA rfl rfl rfl (does_field Wh_fld_37_0 rfl rfl) ?_
 intro a hA
 refine seq_do hA rfl rfl rfl (m_load1 hM Wh_is1_35 rfl 1 rfl rfl) ?_
 intro a hA
 refine seq_do (v := .int .i64 (((fs.length : Nat) : Int))) hA rfl rfl rfl (does_len Try.underlying35 rfl) ?_
 intro a hA
 refine seq_do (v := .pointer (some ⟨g4, 0, none⟩)) hA rfl rfl rfl (does_field Wh_fld_37_0 rfl rfl) ?_
 intro a hA
 refine seq_do hA rfl rfl rfl (m_load1 hM Wh_is1_35 rfl 0 rfl rfl) ?_
 intro a hA
 refine seq_do (v := .int .i64 (((gf.length : Nat) : Int))) hA rfl rfl rfl (does_len Try.underlying35 rfl) ?_
 intro a hA
 rcases Bool.eq_false_or_eq_true ((((fs.length : Nat) : Int) != ((gf.length : Nat) : Int))) with hb8 | hb8
 · have hb8' := bne_iff_ne.1 hb8
   refine seq_do (v := .bool true) hA rfl rfl rfl (does_bin rfl rfl (fun w => (bin_neq w).trans (by rw [hb8]))) ?_
   intro a hA
   refine seq_do hA rfl rfl rfl (does_move rfl) ?_
   intro a hA
   refine seq_skip hA rfl rfl rfl ?_
   intro a hA
   refine seq_skip hA rfl rfl rfl ?_
   intro a hA
   refine seq_skip hA rfl rfl rfl ?_
   intro a hA
   refine seq_skip hA rfl rfl rfl ?_
   intro a hA
   refine seq_skip hA rfl rfl rfl ?_
   intro a hA
   refine seq_skip hA rfl rfl rfl ?_
   intro a hA
   refine seq_do (v := .bool true) hA rfl rfl rfl (does_pick rfl rfl rfl rfl) ?_
   intro a hA
   refine seq_do hA rfl rfl rfl (does_move rfl) ?_
   intro a hA
   refine seq_skip hA rfl rfl rfl ?_
   intro a hA
   refine seq_skip hA rfl rfl rfl ?_
   intro a hA
   refine seq_skip hA rfl rfl rfl ?_
   intro a hA
   refine seq_skip hA rfl rfl rfl ?_
   intro a hA
   refine seq_skip hA rfl rfl rfl ?_
   intro a hA
   refine seq_skip hA rfl rfl rfl ?_
   intro a hA
   refine seq_do (v := .bool true) hA rfl rfl rfl (does_pick rfl rfl rfl rfl) ?_
   intro a hA
   refine seq_end ?_
   refine hK7 _ _ ?_
   refine wp_cond_true (hA.ev rfl) ?_
   refine wp_seq_k (fun K9 hK9 => ?_)
   refine wp_region_lit ?_
   refine seq_do hA rfl rfl rfl (does_assign rfl) ?_
   intro a hA
   refine seq_end ?_
   refine hK9 _ _ ?_
   refine wp_ret ?_
   refine hret _ _ ?_
   refine ends (v := .bool false) hA rfl (.cons (res_tmp rfl) .nil) rfl ?_
   rw [show decide (fs = gf ∧ il = jl ∧ ol = kl) = false from decide_eq_false (fun h9 => by have h8 := congrArg List.length h9.1; omega)]
   exact ⟨rfl, hM.bel⟩
 · have hb8' := bne_eq_false_iff_eq.1 hb8
   refine seq_do (v := .bool false) hA rfl rfl rfl (does_bin rfl rfl (fun w => (bin_neq w).trans (by rw [hb8]))) ?_
   intro a hA
   refine seq_do hA rfl rfl rfl (does_move rfl) ?_
   intro a hA
   refine seq_do (v := .pointer (some ⟨g2, 1, none⟩)) hA rfl rfl rfl (does_field Wh_fld_37_1 rfl rfl) ?_
   intro a hA
   refine seq_do hA rfl rfl rfl (m_load1 hM Wh_is1_24 rfl 1 rfl rfl) ?_
   intro a hA
   refine seq_do (v := .pointer (some ⟨g4, 1, none⟩)) hA rfl rfl rfl (does_field Wh_fld_37_1 rfl rfl) ?_
   intro a hA
   refine seq_do hA rfl rfl rfl (m_load1 hM Wh_is1_24 rfl 0 rfl rfl) ?_
   intro a hA
   rcases Bool.eq_false_or_eq_true (decide (il = jl)) with hb10 | hb10
   · have hb10' := of_decide_eq_true hb10
     refine seq_call hA rfl rfl rfl (enters_func rfl rfl (fun w => by kernel_rfl)) (same_as (xs := il) (ys := jl) (hI.below hM.bel) (hJ_.below hM.bel) (by omega) hb10) ?_
     rintro _ w12 ⟨rfl, hb11⟩
     replace hM := hM.call hb11
     refine ⟨_, rfl, ?_⟩
     intro a hA
     refine seq_do (v := .bool false) hA rfl rfl rfl (does_un rfl un_not) ?_
     intro a hA
     refine seq_do (v := .bool false) hA rfl rfl rfl (does_pick rfl rfl rfl rfl) ?_
     intro a hA
     refine seq_do hA rfl rfl rfl (does_move rfl) ?_
     intro a hA
     refine seq_do (v := .pointer (some ⟨g2, 2, none⟩)) hA rfl rfl rfl (does_field Wh_fld_37_2 rfl rfl) ?_
     intro a hA
     refine seq_do hA rfl rfl rfl (m_load1 hM Wh_is1_24 rfl 1 rfl rfl) ?_
     intro a hA
     refine seq_do (v := .pointer (some ⟨g4, 2, none⟩)) hA rfl rfl rfl (does_field Wh_fld_37_2 rfl rfl) ?_
     intro a hA
     refine seq_do hA rfl rfl rfl (m_load1 hM Wh_is1_24 rfl 0 rfl rfl) ?_
     intro a hA
     rcases Bool.eq_false_or_eq_true (decide (ol = kl)) with hb13 | hb13
     · have hb13' := of_decide_eq_true hb13
       refine seq_call hA rfl rfl rfl (enters_func rfl rfl (fun w => by kernel_rfl)) (same_as (xs := ol) (ys := kl) (hO.below hM.bel) (hK_.below hM.bel) (by omega) hb13) ?_
       rintro _ w15 ⟨rfl, hb14⟩
       replace hM := hM.call hb14
       refine ⟨_, rfl, ?_⟩
       intro a hA
       refine seq_do (v := .bool false) hA rfl rfl rfl (does_un rfl un_not) ?_
       intro a hA
       refine seq_do (v := .bool false) hA rfl rfl rfl (does_pick rfl rfl rfl rfl) ?_
       intro a hA
       refine seq_end ?_
       refine hK7 _ _ ?_
       refine wp_cond_false (hA.ev rfl) ?_
       refine wp_skip ?_
       refine hK6 _ _ ?_
       refine wp_seq_k (fun K16 hK16 => ?_)
       refine wp_seq_k (fun K17 hK17 => ?_)
       refine wp_region_lit ?_
       refine seq_do hA rfl rfl rfl (does_assign rfl) ?_
       intro a hA
       refine seq_end ?_
       refine hK17 _ _ ?_
       refine wp_block ?_
       refine wp_loop_n (fun m_ a w1 => ∃ (i : Nat), m_ = fs.length - i ∧ (i ≤ fs.length ∧ ∀ j, j < i → fs[j]? = gf[j]?) ∧ Sl a 65 [(0, .agg #[.slice sF fs.length cF_, .slice sI il.length cI, .slice sO ol.length cO]), (1, .agg #[.slice sG gf.length cG, .slice sJ jl.length cJ, .slice sK kl.length cK]), (2, .pointer (some ⟨g2, 0, none⟩)), (3, .pointer (some ⟨g4, 0, none⟩)), (5, .int .i64 (((i : Nat) : Int))), (6, .pointer (some ⟨g2, 0, none⟩)), (7, .slice sF fs.length cF_), (8, .int .i64 (((fs.length : Nat) : Int))), (9, .pointer (some ⟨g4, 0, none⟩)), (10, .slice sG gf.length cG), (11, .int .i64 (((gf.length : Nat) : Int))), (12, .bool false), (13, .bool false), (14, .pointer (some ⟨g2, 1, none⟩)), (15, .slice sI il.length cI), (16, .pointer (some ⟨g4, 1, none⟩)), (17, .slice sJ jl.length cJ), (18, .bool true), (19, .bool false), (20, .bool false), (21, .bool false), (22, .pointer (some ⟨g2, 2, none⟩)), (23, .slice sO ol.length cO), (24, .pointer (some ⟨g4, 2, none⟩)), (25, .slice sK kl.length cK), (26, .bool true), (27, .bool false), (28, .bool false)] ∧ Mg w w1 (.obj g4 (.cells #[.slice sG gf.length cG, .slice sJ jl.length cJ, .slice sK kl.length cK] 37) :: .obj g2 (.cells #[.slice sF fs.length cF_, .slice sI il.length cI, .slice sO ol.length cO] 37) :: [])) _ ⟨0, rfl, ⟨Nat.zero_le _, fun j hj => absurd hj (Nat.not_lt_zero _)⟩, hA.keep _ ⟨rfl, rfl, rfl, rfl, rfl, rfl, rfl, rfl, rfl, rfl, rfl, rfl, rfl, rfl, rfl, rfl, rfl, rfl, rfl, rfl, rfl, rfl, rfl, rfl, rfl, rfl, rfl, rfl, trivial⟩, hM⟩ ?_
       clear hM hA
       rintro m_ a w18 ⟨i, rfl, hinv20, hA, hM⟩ K19 hK19
       obtain ⟨hi9, hall⟩ := hinv20
       refine wp_seq_k (fun K21 hK21 => ?_)
       refine wp_seq_k (fun K22 hK22 => ?_)
       refine wp_region_lit ?_
       refine seq_do hA rfl rfl rfl (does_move rfl) ?_
       intro a hA
       refine seq_do (v := .pointer (some ⟨g2, 0, none⟩)) hA rfl rfl rfl (does_field Wh_fld_37_0 rfl rfl) ?_
       intro a hA
       refine seq_do hA rfl rfl rfl (m_load1 hM Wh_is1_35 rfl 1 rfl rfl) ?_
       intro a hA
       refine seq_do (v := .int .i64 (((fs.length : Nat) : Int))) hA rfl rfl rfl (does_len Try.underlying35 rfl) ?_
       intro a hA
       rcases Bool.eq_false_or_eq_true (decide (((i : Nat) : Int) < ((fs.length : Nat) : Int))) with hb23 | hb23
       · have hb23' := of_decide_eq_true hb23
         refine seq_do (v := .bool true) hA rfl rfl rfl (does_bin rfl rfl (fun w => (bin_lss w).trans (by rw [hb23]))) ?_
         intro a hA
         refine seq_end ?_
         refine hK22 _ _ ?_
         refine wp_cond_true (hA.ev rfl) ?_
         refine wp_skip ?_
         refine hK21 _ _ ?_
         refine wp_seq_k (fun K24 hK24 => ?_)
         refine wp_block ?_
         refine wp_seq_k (fun K25 hK25 => ?_)
         obtain ⟨fn26, fd27, hf32⟩ := file_get (fs := fs) (i := i) (by omega)
         obtain ⟨bf28, of29, sj30, cj31, hf33, hf34, hf35, hf36, hf37, hf38⟩ := hF.pos _ _ hf32
         obtain ⟨fn39, fd40, hf45⟩ := file_get (fs := gf) (i := i) (by omega)
         obtain ⟨bf41, of42, sj43, cj44, hf46, hf47, hf48, hf49, hf50, hf51⟩ := hG.pos _ _ hf45
         have hbd9 := hBd.at_ hf32
         refine wp_draw (S := fun w1 => Mg w w1 (.obj g4 (.cells #[.slice sG gf.length cG, .slice sJ jl.length cJ, .slice sK kl.length cK] 37) :: .obj g2 (.cells #[.slice sF fs.length cF_, .slice sI il.length cI, .slice sO ol.length cO] 37) :: [])) (by kernel_rfl) ?_
         replace hM := hM.drew
         refine any_tk (v := .pointer (some ⟨g2, 0, none⟩)) hA 0 rfl rfl rfl rfl hP (hM.sub (.cons_cons _ (.cons_cons _ (List.nil_sublist _)))) (fun w1 hM => does_field Wh_fld_37_0 rfl rfl) ?_
         intro a hA
         refine any_tk hA 1 rfl rfl rfl rfl hP (hM.sub (.cons_cons _ (.cons_cons _ (List.nil_sublist _)))) (fun w1 hM => m_load1 hM Wh_is1_35 rfl 1 rfl rfl) ?_
         intro a hA
         refine any_tk hA 2 rfl rfl rfl rfl hP (hM.sub (.cons_cons _ (.cons_cons _ (List.nil_sublist _)))) (fun w1 hM => does_move rfl) ?_
         intro a hA
         refine any_tk (v := .pointer (some ⟨bf28, of29 + i * 2, none⟩)) hA 3 rfl rfl rfl rfl hP (hM.sub (.cons_cons _ (.cons_cons _ (List.nil_sublist _)))) (fun w1 hM => does_indexA Try.underlying35 (by kernel_rfl) rfl rfl rfl hf33 (show i < fs.length by omega)) ?_
         intro a hA
         refine any_tk (v := .pointer (some ⟨bf28, of29 + i * 2, none⟩)) hA 4 rfl rfl rfl rfl hP (hM.sub (.cons_cons _ (.cons_cons _ (List.nil_sublist _)))) (fun w1 hM => does_field Wh_fld_88_0 rfl rfl) ?_
         intro a hA
         refine any_tk (v := .string fn26) hA 5 rfl rfl rfl rfl hP (hM.sub (.cons_cons _ (.cons_cons _ (List.nil_sublist _)))) (fun w1 hM => m_loadR hM hf34 hf35 Wh_is1_9 rfl) ?_
         intro a hA
         refine any_tk (v := .pointer (some ⟨g4, 0, none⟩)) hA 6 rfl rfl rfl rfl hP (hM.sub (.cons_cons _ (.cons_cons _ (List.nil_sublist _)))) (fun w1 hM => does_field Wh_fld_37_0 rfl rfl) ?_
         intro a hA
         refine any_tk hA 7 rfl rfl rfl rfl hP (hM.sub (.cons_cons _ (.cons_cons _ (List.nil_sublist _)))) (fun w1 hM => m_load1 hM Wh_is1_35 rfl 0 rfl rfl) ?_
         intro a hA
         refine any_tk hA 8 rfl rfl rfl rfl hP (hM.sub (.cons_cons _ (.cons_cons _ (List.nil_sublist _)))) (fun w1 hM => does_move rfl) ?_
         intro a hA
         refine any_tk (v := .pointer (some ⟨bf41, of42 + i * 2, none⟩)) hA 9 rfl rfl rfl rfl hP (hM.sub (.cons_cons _ (.cons_cons _ (List.nil_sublist _)))) (fun w1 hM => does_indexA Try.underlying35 (by kernel_rfl) rfl rfl rfl hf46 (show i < gf.length by omega)) ?_
         intro a hA
         refine any_tk (v := .pointer (some ⟨bf41, of42 + i * 2, none⟩)) hA 10 rfl rfl rfl rfl hP (hM.sub (.cons_cons _ (.cons_cons _ (List.nil_sublist _)))) (fun w1 hM => does_field Wh_fld_88_0 rfl rfl) ?_
         intro a hA
         refine any_tk (v := .string fn39) hA 11 rfl rfl rfl rfl hP (hM.sub (.cons_cons _ (.cons_cons _ (List.nil_sublist _)))) (fun w1 hM => m_loadR hM hf47 hf48 Wh_is1_9 rfl) ?_
         intro a hA
         rcases Bool.eq_false_or_eq_true (decide (fn26 = fn39)) with hb52 | hb52
         · have hb52' := of_decide_eq_true hb52
           refine any_tk (v := .bool false) hA 12 rfl rfl rfl rfl hP (hM.sub (.cons_cons _ (.cons_cons _ (List.nil_sublist _)))) (fun w1 hM => does_bin rfl rfl (fun w => (bin_neqS Try.underlying9 w).trans (by rw [hb52]; rfl))) ?_
           intro a hA
           refine any_tk hA 13 rfl rfl rfl rfl hP (hM.sub (.cons_cons _ (.cons_cons _ (List.nil_sublist _)))) (fun w1 hM => does_move rfl) ?_
           intro a hA
           refine any_tk (v := .pointer (some ⟨g2, 0, none⟩)) hA 14 rfl rfl rfl rfl hP (hM.sub (.cons_cons _ (.cons_cons _ (List.nil_sublist _)))) (fun w1 hM => does_field Wh_fld_37_0 rfl rfl) ?_
           intro a hA
           refine any_tk hA 15 rfl rfl rfl rfl hP (hM.sub (.cons_cons _ (.cons_cons _ (List.nil_sublist _)))) (fun w1 hM => m_load1 hM Wh_is1_35 rfl 1 rfl rfl) ?_
           intro a hA
           refine any_tk hA 16 rfl rfl rfl rfl hP (hM.sub (.cons_cons _ (.cons_cons _ (List.nil_sublist _)))) (fun w1 hM => does_move rfl) ?_
           intro a hA
           refine any_tk (v := .pointer (some ⟨bf28, of29 + i * 2, none⟩)) hA 17 rfl rfl rfl rfl hP (hM.sub (.cons_cons _ (.cons_cons _ (List.nil_sublist _)))) (fun w1 hM => does_indexA Try.underlying35 (by kernel_rfl) rfl rfl rfl hf33 (show i < fs.length by omega)) ?_
           intro a hA
           refine any_tk (v := .pointer (some ⟨bf28, of29 + i * 2 + 1, none⟩)) hA 18 rfl rfl rfl rfl hP (hM.sub (.cons_cons _ (.cons_cons _ (List.nil_sublist _)))) (fun w1 hM => does_field Wh_fld_88_1 rfl rfl) ?_
           intro a hA
           refine any_tk (v := .slice sj30 fd27.length cj31) hA 19 rfl rfl rfl rfl hP (hM.sub (.cons_cons _ (.cons_cons _ (List.nil_sublist _)))) (fun w1 hM => m_loadR hM hf34 hf36 Wh_is1_24 rfl) ?_
           intro a hA
           refine any_tk (v := .pointer (some ⟨g4, 0, none⟩)) hA 20 rfl rfl rfl rfl hP (hM.sub (.cons_cons _ (.cons_cons _ (List.nil_sublist _)))) (fun w1 hM => does_field Wh_fld_37_0 rfl rfl) ?_
           intro a hA
           refine any_tk hA 21 rfl rfl rfl rfl hP (hM.sub (.cons_cons _ (.cons_cons _ (List.nil_sublist _)))) (fun w1 hM => m_load1 hM Wh_is1_35 rfl 0 rfl rfl) ?_
           intro a hA
           refine any_tk hA 22 rfl rfl rfl rfl hP (hM.sub (.cons_cons _ (.cons_cons _ (List.nil_sublist _)))) (fun w1 hM => does_move rfl) ?_
           intro a hA
           refine any_tk (v := .pointer (some ⟨bf41, of42 + i * 2, none⟩)) hA 23 rfl rfl rfl rfl hP (hM.sub (.cons_cons _ (.cons_cons _ (List.nil_sublist _)))) (fun w1 hM => does_indexA Try.underlying35 (by kernel_rfl) rfl rfl rfl hf46 (show i < gf.length by omega)) ?_
           intro a hA
           refine any_tk (v := .pointer (some ⟨bf41, of42 + i * 2 + 1, none⟩)) hA 24 rfl rfl rfl rfl hP (hM.sub (.cons_cons _ (.cons_cons _ (List.nil_sublist _)))) (fun w1 hM => does_field Wh_fld_88_1 rfl rfl) ?_
           intro a hA
           refine any_tk (v := .slice sj43 fd40.length cj44) hA 25 rfl rfl rfl rfl hP (hM.sub (.cons_cons _ (.cons_cons _ (List.nil_sublist _)))) (fun w1 hM => m_loadR hM hf47 hf49 Wh_is1_24 rfl) ?_
           intro a hA
           rcases Bool.eq_false_or_eq_true (decide (fd27 = fd40)) with hb53 | hb53
           · have hb53' := of_decide_eq_true hb53
             refine any_one (by kernel_rfl) (op_call hA 26 rfl rfl rfl rfl (enters_func rfl rfl (fun w => by kernel_rfl)) (same_as (xs := fd27) (ys := fd40) (hf37.below hM.bel) (hf50.below hM.bel) (by omega) hb53) ?_)
             rintro _ w55 ⟨rfl, hb54⟩
             replace hM := hM.call hb54
             refine ⟨_, rfl, (hM.sub (.cons_cons _ (.cons_cons _ (List.nil_sublist _)))), ?_⟩
             intro a hA
             refine any_tk (v := .bool false) hA 27 rfl rfl rfl rfl hP (hM.sub (.cons_cons _ (.cons_cons _ (List.nil_sublist _)))) (fun w1 hM => does_un rfl un_not) ?_
             intro a hA
             refine any_tk (v := .bool false) hA 28 rfl rfl rfl rfl hP (hM.sub (.cons_cons _ (.cons_cons _ (List.nil_sublist _)))) (fun w1 hM => does_pick rfl rfl rfl rfl) ?_
             intro a hA
             refine any_end (by kernel_rfl) ?_
             refine hK25 _ _ ?_
             refine wp_cond_false (hA.ev rfl) ?_
             refine wp_skip ?_
             refine hK24 _ _ ?_
             refine wp_region_lit ?_
             refine seq_do hA rfl rfl rfl (does_move rfl) ?_
             intro a hA
             refine seq_do (v := .int .i64 (((i + 1 : Nat) : Int))) hA rfl rfl rfl (does_bin rfl rfl (ar_add ((in_i64 (by omega) (by omega)).trans (by omega)))) ?_
             intro a hA
             refine seq_do hA rfl rfl rfl (does_assign rfl) ?_
             intro a hA
             refine seq_end ?_
             refine hK19 _ _ _ (by omega) ⟨i + 1, rfl, ⟨by omega, files_more hall hf32 hf45 (of_decide_eq_true hb52) (of_decide_eq_true hb53)⟩, hA.keep _ ⟨rfl, rfl, rfl, rfl, rfl, rfl, rfl, rfl, rfl, rfl, rfl, rfl, rfl, rfl, rfl, rfl, rfl, rfl, rfl, rfl, rfl, rfl, rfl, rfl, rfl, rfl, rfl, rfl, trivial⟩, hM⟩
           · have hb53' := of_decide_eq_false hb53
             refine any_one (by kernel_rfl) (op_call hA 26 rfl rfl rfl rfl (enters_func rfl rfl (fun w => by kernel_rfl)) (same_as (xs := fd27) (ys := fd40) (hf37.below hM.bel) (hf50.below hM.bel) (by omega) hb53) ?_)
             rintro _ w57 ⟨rfl, hb56⟩
             replace hM := hM.call hb56
             refine ⟨_, rfl, (hM.sub (.cons_cons _ (.cons_cons _ (List.nil_sublist _)))), ?_⟩
             intro a hA
             refine any_tk (v := .bool true) hA 27 rfl rfl rfl rfl hP (hM.sub (.cons_cons _ (.cons_cons _ (List.nil_sublist _)))) (fun w1 hM => does_un rfl un_not) ?_
             intro a hA
             refine any_tk (v := .bool true) hA 28 rfl rfl rfl rfl hP (hM.sub (.cons_cons _ (.cons_cons _ (List.nil_sublist _)))) (fun w1 hM => does_pick rfl rfl rfl rfl) ?_
             intro a hA
             refine any_end (by kernel_rfl) ?_
             refine hK25 _ _ ?_
             refine wp_cond_true (hA.ev rfl) ?_
             refine wp_seq_k (fun K58 hK58 => ?_)
             refine wp_region_lit ?_
             refine seq_do hA rfl rfl rfl (does_assign rfl) ?_
             intro a hA
             refine seq_end ?_
             refine hK58 _ _ ?_
             refine wp_ret ?_
             refine hret _ _ ?_
             refine ends (v := .bool false) hA rfl (.cons (res_tmp rfl) .nil) rfl ?_
             rw [show decide (fs = gf ∧ il = jl ∧ ol = kl) = false from decide_eq_false (fun h9 => by have h8 := hf32; rw [h9.1, hf45] at h8; have h7 := Option.some.inj h8; exact of_decide_eq_false hb53 (congrArg Prod.snd h7).symm)]
             exact ⟨rfl, hM.bel⟩
         · have hb52' := of_decide_eq_false hb52
           refine any_tk (v := .bool true) hA 12 rfl rfl rfl rfl hP (hM.sub (.cons_cons _ (.cons_cons _ (List.nil_sublist _)))) (fun w1 hM => does_bin rfl rfl (fun w => (bin_neqS Try.underlying9 w).trans (by rw [hb52]; rfl))) ?_
           intro a hA
           refine any_tk hA 13 rfl rfl rfl rfl hP (hM.sub (.cons_cons _ (.cons_cons _ (List.nil_sublist _)))) (fun w1 hM => does_move rfl) ?_
           intro a hA
           refine any_sk hA 14 rfl rfl rfl rfl hP (hM.sub (.cons_cons _ (.cons_cons _ (List.nil_sublist _)))) ?_
           intro a hA
           refine any_sk hA 15 rfl rfl rfl rfl hP (hM.sub (.cons_cons _ (.cons_cons _ (List.nil_sublist _)))) ?_
           intro a hA
           refine any_sk hA 16 rfl rfl rfl rfl hP (hM.sub (.cons_cons _ (.cons_cons _ (List.nil_sublist _)))) ?_
           intro a hA
           refine any_sk hA 17 rfl rfl rfl rfl hP (hM.sub (.cons_cons _ (.cons_cons _ (List.nil_sublist _)))) ?_
           intro a hA
           refine any_sk hA 18 rfl rfl rfl rfl hP (hM.sub (.cons_cons _ (.cons_cons _ (List.nil_sublist _)))) ?_
           intro a hA
           refine any_sk hA 19 rfl rfl rfl rfl hP (hM.sub (.cons_cons _ (.cons_cons _ (List.nil_sublist _)))) ?_
           intro a hA
           refine any_sk hA 20 rfl rfl rfl rfl hP (hM.sub (.cons_cons _ (.cons_cons _ (List.nil_sublist _)))) ?_
           intro a hA
           refine any_sk hA 21 rfl rfl rfl rfl hP (hM.sub (.cons_cons _ (.cons_cons _ (List.nil_sublist _)))) ?_
           intro a hA
           refine any_sk hA 22 rfl rfl rfl rfl hP (hM.sub (.cons_cons _ (.cons_cons _ (List.nil_sublist _)))) ?_
           intro a hA
           refine any_sk hA 23 rfl rfl rfl rfl hP (hM.sub (.cons_cons _ (.cons_cons _ (List.nil_sublist _)))) ?_
           intro a hA
           refine any_sk hA 24 rfl rfl rfl rfl hP (hM.sub (.cons_cons _ (.cons_cons _ (List.nil_sublist _)))) ?_
           intro a hA
           refine any_sk hA 25 rfl rfl rfl rfl hP (hM.sub (.cons_cons _ (.cons_cons _ (List.nil_sublist _)))) ?_
           intro a hA
           refine any_sk hA 26 rfl rfl rfl rfl hP (hM.sub (.cons_cons _ (.cons_cons _ (List.nil_sublist _)))) ?_
           intro a hA
           refine any_sk hA 27 rfl rfl rfl rfl hP (hM.sub (.cons_cons _ (.cons_cons _ (List.nil_sublist _)))) ?_
           intro a hA
           refine any_tk (v := .bool true) hA 28 rfl rfl rfl rfl hP (hM.sub (.cons_cons _ (.cons_cons _ (List.nil_sublist _)))) (fun w1 hM => does_pick rfl rfl rfl rfl) ?_
           intro a hA
           refine any_end (by kernel_rfl) ?_
           refine hK25 _ _ ?_
           refine wp_cond_true (hA.ev rfl) ?_
           refine wp_seq_k (fun K59 hK59 => ?_)
           refine wp_region_lit ?_
           refine seq_do hA rfl rfl rfl (does_assign rfl) ?_
           intro a hA
           refine seq_end ?_
           refine hK59 _ _ ?_
           refine wp_ret ?_
           refine hret _ _ ?_
           refine ends (v := .bool false) hA rfl (.cons (res_tmp rfl) .nil) rfl ?_
           rw [show decide (fs = gf ∧ il = jl ∧ ol = kl) = false from decide_eq_false (fun h9 => by have h8 := hf32; rw [h9.1, hf45] at h8; have h7 := Option.some.inj h8; exact of_decide_eq_false hb52 (congrArg Prod.fst h7).symm)]
           exact ⟨rfl, hM.bel⟩
       · have hb23' := of_decide_eq_false hb23
         refine seq_do (v := .bool false) hA rfl rfl rfl (does_bin rfl rfl (fun w => (bin_lss w).trans (by rw [hb23]))) ?_
         intro a hA
         refine seq_end ?_
         refine hK22 _ _ ?_
         refine wp_cond_false (hA.ev rfl) ?_
         refine wp_exit ?_
         refine hK16 _ _ ?_
         refine wp_seq_k (fun K60 hK60 => ?_)
         refine wp_region_lit ?_
         refine seq_do hA rfl rfl rfl (does_assign rfl) ?_
         intro a hA
         refine seq_end ?_
         refine hK60 _ _ ?_
         refine wp_ret ?_
         refine hret _ _ ?_
         refine ends (v := .bool true) hA rfl (.cons (res_tmp rfl) .nil) rfl ?_
         rw [show decide (fs = gf ∧ il = jl ∧ ol = kl) = true from decide_eq_true ⟨files_eq (by omega) (fun j hj => hall j (by omega)), of_decide_eq_true hb10, of_decide_eq_true hb13⟩]
         exact ⟨rfl, hM.bel⟩
     · have hb13' := of_decide_eq_false hb13
       refine seq_call hA rfl rfl rfl (enters_func rfl rfl (fun w => by kernel_rfl)) (same_as (xs := ol) (ys := kl) (hO.below hM.bel) (hK_.below hM.bel) (by omega) hb13) ?_
       rintro _ w62 ⟨rfl, hb61⟩
       replace hM := hM.call hb61
       refine ⟨_, rfl, ?_⟩
       intro a hA
       refine seq_do (v := .bool true) hA rfl rfl rfl (does_un rfl un_not) ?_
       intro a hA
       refine seq_do (v := .bool true) hA rfl rfl rfl (does_pick rfl rfl rfl rfl) ?_
       intro a hA
       refine seq_end ?_
       refine hK7 _ _ ?_
       refine wp_cond_true (hA.ev rfl) ?_
       refine wp_seq_k (fun K63 hK63 => ?_)
       refine wp_region_lit ?_
       refine seq_do hA rfl rfl rfl (does_assign rfl) ?_
       intro a hA
       refine seq_end ?_
       refine hK63 _ _ ?_
       refine wp_ret ?_
       refine hret _ _ ?_
       refine ends (v := .bool false) hA rfl (.cons (res_tmp rfl) .nil) rfl ?_
       rw [show decide (fs = gf ∧ il = jl ∧ ol = kl) = false from decide_eq_false (fun h9 => of_decide_eq_false hb13 h9.2.2)]
       exact ⟨rfl, hM.bel⟩
   · have hb10' := of_decide_eq_false hb10
     refine seq_call hA rfl rfl rfl (enters_func rfl rfl (fun w => by kernel_rfl)) (same_as (xs := il) (ys := jl) (hI.below hM.bel) (hJ_.below hM.bel) (by omega) hb10) ?_
     rintro _ w65 ⟨rfl, hb64⟩
     replace hM := hM.call hb64
     refine ⟨_, rfl, ?_⟩
     intro a hA
     refine seq_do (v := .bool true) hA rfl rfl rfl (does_un rfl un_not) ?_
     intro a hA
     refine seq_do (v := .bool true) hA rfl rfl rfl (does_pick rfl rfl rfl rfl) ?_
     intro a hA
     refine seq_do hA rfl rfl rfl (does_move rfl) ?_
     intro a hA
     refine seq_skip hA rfl rfl rfl ?_
     intro a hA
     refine seq_skip hA rfl rfl rfl ?_
     intro a hA
     refine seq_skip hA rfl rfl rfl ?_
     intro a hA
     refine seq_skip hA rfl rfl rfl ?_
     intro a hA
     refine seq_skip hA rfl rfl rfl ?_
     intro a hA
     refine seq_skip hA rfl rfl rfl ?_
     intro a hA
     refine seq_do (v := .bool true) hA rfl rfl rfl (does_pick rfl rfl rfl rfl) ?_
     intro a hA
     refine seq_end ?_
     refine hK7 _ _ ?_
     refine wp_cond_true (hA.ev rfl) ?_
     refine wp_seq_k (fun K66 hK66 => ?_)
     refine wp_region_lit ?_
     refine seq_do hA rfl rfl rfl (does_assign rfl) ?_
     intro a hA
     refine seq_end ?_
     refine hK66 _ _ ?_
     refine wp_ret ?_
     refine hret _ _ ?_
     refine ends (v := .bool false) hA rfl (.cons (res_tmp rfl) .nil) rfl ?_
     rw [show decide (fs = gf ∧ il = jl ∧ ol = kl) = false from decide_eq_false (fun h9 => of_decide_eq_false hb10 h9.2.1)]
     exact ⟨rfl, hM.bel⟩
theorem rsame_as {w : World} {sF sI sO : Option Addr} {cF_ cI cO : Nat} {fs : List Fl} {il ol : List UInt8} {sG sJ sK : Option Addr} {cG cJ cK : Nat} {gf : List Fl} {jl kl : List UInt8} {b : Bool} (hF : Rf w sF fs) (hI : Rb w sI il) (hO : Rb w sO ol) (hG : Rf w sG gf) (hJ_ : Rb w sJ jl) (hK_ : Rb w sK kl) (hBd : Bd fs il ol) (hn2 : gf.length ≤ 4398046511104) (h : decide (fs = gf ∧ il = jl ∧ ol = kl) = b) : Calls Try.prog 29 #[.agg #[.slice sF fs.length cF_, .slice sI il.length cI, .slice sO ol.length cO], .agg #[.slice sG gf.length cG, .slice sJ jl.length cJ, .slice sK kl.length cK]] w fun e w' => e = .returned (.bool b) ∧ Below w.heap.size w w' := h ▸ rsame_any hF hI hO hG hJ_ hK_ hBd hn2
theorem rcopy_any {w : World} {sF sI sO : Option Addr} {cF_ cI cO : Nat} {fs : List Fl} {il ol : List UInt8} (hF : Rf w sF fs) (hI : Rb w sI il) (hO : Rb w sO ol) (hBd : Bd fs il ol) : Calls Try.prog 16 #[.agg #[.slice sF fs.length cF_, .slice sI il.length cI, .slice sO ol.length cO]] w fun e w' => ∃ vF vI vO, e = .returned (.agg #[vF, vI, vO]) ∧ OwnW w w' fs il ol vF vI vO := by
 have hn := hBd.n
 obtain ⟨hB1, hB2, hB3, hB4⟩ := hBd
 have hBd : Bd fs il ol := ⟨hB1, hB2, hB3, hB4⟩
 have hM : Mg w w ([]) := Mg.start w
 refine walk_of (l := [(0, .agg #[.slice sF fs.length cF_, .slice sI il.length cI, .slice sO ol.length cO])]) Try.func16 rfl Try.ntmps16 rfl rfl ?_
 intro Q hret hnorm hP a hA
 refine wp_seq_k (fun K1 hK1 => ?_)
 refine wp_region_lit ?_
 refine s_new (vs := [.slice sF fs.length cF_, .slice sI il.length cI, .slice sO ol.length cO]) (t := 37) hA hM rfl rfl rfl (fun g => .pointer (some ⟨g, 0, none⟩)) (does_box rfl rfl) (by decide) ?_
 intro g2 w3 hM a hA
 refine s_new (vs := [.slice none 0 0, .slice none 0 0, .slice none 0 0]) (t := 37) hA hM rfl rfl rfl (fun g => .pointer (some ⟨g, 0, none⟩)) (does_alloc (z := .agg #[.slice none 0 0, .slice none 0 0, .slice none 0 0]) (by kernel_rfl) rfl) (by decide) ?_
 intro g4 w5 hM a hA
 refine seq_end ?_
 refine hK1 _ _ ?_
 refine wp_seq_k (fun K6 hK6 => ?_)
 have hJ7 : ∀ a w1, (∃ (s1 : Option Addr) (c1 : Nat) (s2 : Option Addr) (c2 : Nat) (g3 : Nat), Sl a 42 [(0, .agg #[.slice sF fs.length cF_, .slice sI il.length cI, .slice sO ol.length cO]), (1, .pointer (some ⟨g2, 0, none⟩)), (2, .pointer (some ⟨g4, 0, none⟩)), (3, .pointer (some ⟨g3, 0, none⟩))] ∧ Mg w w1 (.obj g3 (.cells #[.slice none 0 0, .slice s1 ((0 + il.length)) c1, .slice s2 ((0 + ol.length)) c2] 37) :: .row BY 1 (.slice s1 ((0 + il.length)) c1) ((0 + il.length)) (([] ++ Lib.byteCells il)) :: .row BY 1 (.slice s2 ((0 + ol.length)) c2) ((0 + ol.length)) (([] ++ Lib.byteCells ol)) :: .obj g4 (.cells #[.slice none 0 0, .slice none 0 0, .slice none 0 0] 37) :: .obj g2 (.cells #[.slice sF fs.length cF_, .slice sI il.length cI, .slice sO ol.length cO] 37) :: [])) → K6 a w1 := by
   clear hA hM
   rintro a w8 ⟨s1, c1, s2, c2, g3, hA, hM⟩
   rw [Nat.zero_add, Nat.zero_add, List.nil_append, List.nil_append] at hM
   refine hK6 _ _ ?_
   refine wp_seq_k (fun K9 hK9 => ?_)
   refine wp_seq_k (fun K10 hK10 => ?_)
   refine wp_region_lit ?_
   refine seq_do hA rfl rfl rfl (does_assign rfl) ?_
   intro a hA
   refine seq_end ?_
   refine hK10 _ _ ?_
   refine wp_block ?_
   replace hM : Mg w w8 (.row 88 2 (.slice none 0 0) 0 ([]) :: .obj g3 (.cells #[.slice none 0 0, .slice s1 il.length c1, .slice s2 ol.length c2] 37) :: .row BY 1 (.slice s1 il.length c1) il.length ((Lib.byteCells il)) :: .row BY 1 (.slice s2 ol.length c2) ol.length ((Lib.byteCells ol)) :: .obj g4 (.cells #[.slice none 0 0, .slice none 0 0, .slice none 0 0] 37) :: .obj g2 (.cells #[.slice sF fs.length cF_, .slice sI il.length cI, .slice sO ol.length cO] 37) :: []) := hM.add (Below.refl _ _) (c := .row 88 2 (.slice none 0 0) 0 []) ⟨rfl, .inl ⟨rfl, rfl⟩⟩ (fun k e => by cases e) (.inr (.inl ⟨_, _, _, _, _, rfl, .inl (by decide)⟩))
   refine wp_loop_n (fun m_ a w1 => ∃ (i : Nat) (gs : List Gf) (sf : Option Addr) (cf : Nat) (D : List Ck), m_ = fs.length - i ∧ (GsD gs D ∧ readF gs = fs.take i ∧ gs.length = i ∧ noBld D ∧ i ≤ fs.length) ∧ Sl a 42 [(0, .agg #[.slice sF fs.length cF_, .slice sI il.length cI, .slice sO ol.length cO]), (1, .pointer (some ⟨g2, 0, none⟩)), (2, .pointer (some ⟨g4, 0, none⟩)), (3, .pointer (some ⟨g3, 0, none⟩)), (4, .int .i64 (((i : Nat) : Int)))] ∧ Mg w w1 (.row 88 2 (.slice sf i cf) i ((cellsF gs)) :: .obj g3 (.cells #[.slice sf i cf, .slice s1 il.length c1, .slice s2 ol.length c2] 37) :: .row BY 1 (.slice s1 il.length c1) il.length ((Lib.byteCells il)) :: .row BY 1 (.slice s2 ol.length c2) ol.length ((Lib.byteCells ol)) :: .obj g4 (.cells #[.slice none 0 0, .slice none 0 0, .slice none 0 0] 37) :: .obj g2 (.cells #[.slice sF fs.length cF_, .slice sI il.length cI, .slice sO ol.length cO] 37) :: D)) _ ⟨0, [], none, 0, [], rfl, ⟨(by intro q hq; cases hq), rfl, rfl, noBld_quiet quietL_nil, Nat.zero_le _⟩, hA.keep _ ⟨rfl, rfl, rfl, rfl, rfl, trivial⟩, hM⟩ ?_
   clear hM hA
   rintro m_ a w11 ⟨i, gs, sf, cf, D, rfl, hinv13, hA, hM⟩ K12 hK12
   obtain ⟨hGD, hgr, hgl, hnD, hi9⟩ := hinv13
   refine wp_seq_k (fun K14 hK14 => ?_)
   refine wp_seq_k (fun K15 hK15 => ?_)
   refine wp_region_lit ?_
   refine seq_do hA rfl rfl rfl (does_move rfl) ?_
   intro a hA
   refine seq_do (v := .pointer (some ⟨g2, 0, none⟩)) hA rfl rfl rfl (does_field Wh_fld_37_0 rfl rfl) ?_
   intro a hA
   refine seq_do hA rfl rfl rfl (m_load1 hM Wh_is1_35 rfl 5 rfl rfl) ?_
   intro a hA
   refine seq_do (v := .int .i64 (((fs.length : Nat) : Int))) hA rfl rfl rfl (does_len Try.underlying35 rfl) ?_
   intro a hA
   rcases Bool.eq_false_or_eq_true (decide (((i : Nat) : Int) < ((fs.length : Nat) : Int))) with hb16 | hb16
   · have hb16' := of_decide_eq_true hb16
     refine seq_do (v := .bool true) hA rfl rfl rfl (does_bin rfl rfl (fun w => (bin_lss w).trans (by rw [hb16]))) ?_
     intro a hA
     refine seq_end ?_
     refine hK15 _ _ ?_
     refine wp_cond_true (hA.ev rfl) ?_
     refine wp_skip ?_
     refine hK14 _ _ ?_
     refine wp_seq_k (fun K17 hK17 => ?_)
     refine wp_block ?_
     obtain ⟨fn18, fd19, hf24⟩ := file_get (fs := fs) (i := i) (by omega)
     obtain ⟨bf20, of21, sj22, cj23, hf25, hf26, hf27, hf28, hf29, hf30⟩ := hF.pos _ _ hf24
     have hbd9 := hBd.at_ hf24
     have hJ31 : ∀ a w1, (∃ (sf2 : Option Addr) (cf2 : Nat) (sd : Option Addr) (cd : Nat), Sl a 42 [(0, .agg #[.slice sF fs.length cF_, .slice sI il.length cI, .slice sO ol.length cO]), (1, .pointer (some ⟨g2, 0, none⟩)), (2, .pointer (some ⟨g4, 0, none⟩)), (3, .pointer (some ⟨g3, 0, none⟩)), (4, .int .i64 (((i : Nat) : Int))), (14, .int .i64 (((i : Nat) : Int))), (15, .pointer (some ⟨g2, 0, none⟩)), (16, .slice sF fs.length cF_), (17, .int .i64 (((fs.length : Nat) : Int))), (18, .bool true)] ∧ Mg w w1 (.row 88 2 (.slice sf2 ((i + 1)) cf2) ((i + 1)) ((cellsF gs ++ [.string fn18, .slice sd ((0 + fd19.length)) cd])) :: .row BY 1 (.slice sd ((0 + fd19.length)) cd) ((0 + fd19.length)) (([] ++ Lib.byteCells fd19)) :: .obj g3 (.cells #[.slice sf2 ((i + 1)) cf2, .slice s1 il.length c1, .slice s2 ol.length c2] 37) :: .row BY 1 (.slice s1 il.length c1) il.length ((Lib.byteCells il)) :: .row BY 1 (.slice s2 ol.length c2) ol.length ((Lib.byteCells ol)) :: .obj g4 (.cells #[.slice none 0 0, .slice none 0 0, .slice none 0 0] 37) :: .obj g2 (.cells #[.slice sF fs.length cF_, .slice sI il.length cI, .slice sO ol.length cO] 37) :: D)) → K17 a w1 := by
       clear hA hM
       rintro a w32 ⟨sf2, cf2, sd, cd, hA, hM⟩
       rw [Nat.zero_add, List.nil_append] at hM
       refine hK17 _ _ ?_
       refine wp_region_lit ?_
       refine seq_do hA rfl rfl rfl (does_move rfl) ?_
       intro a hA
       refine seq_do (v := .int .i64 (((i + 1 : Nat) : Int))) hA rfl rfl rfl (does_bin rfl rfl (ar_add ((in_i64 (by omega) (by omega)).trans (by omega)))) ?_
       intro a hA
       refine seq_do hA rfl rfl rfl (does_assign rfl) ?_
       intro a hA
       refine seq_end ?_
       replace hM : Mg w w32 (.row 88 2 (.slice sf2 ((i + 1)) cf2) ((i + 1)) ((cellsF (gs ++ [(fn18, .slice sd fd19.length cd, fd19)]))) :: .obj g3 (.cells #[.slice sf2 ((i + 1)) cf2, .slice s1 il.length c1, .slice s2 ol.length c2] 37) :: .row BY 1 (.slice s1 il.length c1) il.length ((Lib.byteCells il)) :: .row BY 1 (.slice s2 ol.length c2) ol.length ((Lib.byteCells ol)) :: .obj g4 (.cells #[.slice none 0 0, .slice none 0 0, .slice none 0 0] 37) :: .obj g2 (.cells #[.slice sF fs.length cF_, .slice sI il.length cI, .slice sO ol.length cO] 37) :: (.row BY 1 (.slice sd fd19.length cd) fd19.length (Lib.byteCells fd19) :: D)) := by
         have h9 := hM
         rw [show cellsF gs ++ [.string fn18, .slice sd fd19.length cd] = cellsF (gs ++ [(fn18, .slice sd fd19.length cd, fd19)]) from (by rw [cellsF_append]; rfl)] at h9
         exact (h9.perm (List.Perm.swap _ _ _)).perm (List.perm_middle (l₁ := [_, _, _, _, _, _])).symm
       refine hK12 _ _ _ (by omega) ⟨i + 1, gs ++ [(fn18, .slice sd fd19.length cd, fd19)], sf2, cf2, (.row BY 1 (.slice sd fd19.length cd) fd19.length (Lib.byteCells fd19) :: D), rfl, ⟨gs_snoc hGD, read_snoc hgr hf24, by rw [List.length_append, hgl]; rfl, noBld_cons (by simp) hnD, by omega⟩, hA.keep _ ⟨rfl, rfl, rfl, rfl, rfl, trivial⟩, hM⟩
     refine wp_draw (S := fun w1 => Mg w w1 (.obj g2 (.cells #[.slice sF fs.length cF_, .slice sI il.length cI, .slice sO ol.length cO] 37) :: [])) (by kernel_rfl) ?_
     replace hM := hM.drew
     refine any_tk (v := .pointer (some ⟨g3, 0, none⟩)) hA 0 rfl rfl rfl rfl hP (hM.sub (.cons _ (.cons _ (.cons _ (.cons _ (.cons _ (.cons_cons _ (List.nil_sublist _)))))))) (fun w1 hM => does_field Wh_fld_37_0 rfl rfl) ?_
     intro a hA
     refine any_tk (v := .pointer (some ⟨g2, 0, none⟩)) hA 2 rfl rfl rfl rfl hP (hM.sub (.cons _ (.cons _ (.cons _ (.cons _ (.cons _ (.cons_cons _ (List.nil_sublist _)))))))) (fun w1 hM => does_field Wh_fld_37_0 rfl rfl) ?_
     intro a hA
     refine any_tk hA 3 rfl rfl rfl rfl hP (hM.sub (.cons _ (.cons _ (.cons _ (.cons _ (.cons _ (.cons_cons _ (List.nil_sublist _)))))))) (fun w1 hM => m_load1 hM Wh_is1_35 rfl 0 rfl rfl) ?_
     intro a hA
     refine any_tk hA 4 rfl rfl rfl rfl hP (hM.sub (.cons _ (.cons _ (.cons _ (.cons _ (.cons _ (.cons_cons _ (List.nil_sublist _)))))))) (fun w1 hM => does_move rfl) ?_
     intro a hA
     refine any_tk (v := .pointer (some ⟨bf20, of21 + i * 2, none⟩)) hA 5 rfl rfl rfl rfl hP (hM.sub (.cons _ (.cons _ (.cons _ (.cons _ (.cons _ (.cons_cons _ (List.nil_sublist _)))))))) (fun w1 hM => does_indexA Try.underlying35 (by kernel_rfl) rfl rfl rfl hf25 (show i < fs.length by omega)) ?_
     intro a hA
     refine any_tk (v := .pointer (some ⟨bf20, of21 + i * 2, none⟩)) hA 6 rfl rfl rfl rfl hP (hM.sub (.cons _ (.cons _ (.cons _ (.cons _ (.cons _ (.cons_cons _ (List.nil_sublist _)))))))) (fun w1 hM => does_field Wh_fld_88_0 rfl rfl) ?_
     intro a hA
     refine any_tk (v := .string fn18) hA 7 rfl rfl rfl rfl hP (hM.sub (.cons _ (.cons _ (.cons _ (.cons _ (.cons _ (.cons_cons _ (List.nil_sublist _)))))))) (fun w1 hM => m_loadR hM hf26 hf27 Wh_is1_9 rfl) ?_
     intro a hA
     refine any_tk (v := .pointer (some ⟨g2, 0, none⟩)) hA 9 rfl rfl rfl rfl hP (hM.sub (.cons _ (.cons _ (.cons _ (.cons _ (.cons _ (.cons_cons _ (List.nil_sublist _)))))))) (fun w1 hM => does_field Wh_fld_37_0 rfl rfl) ?_
     intro a hA
     refine any_tk hA 10 rfl rfl rfl rfl hP (hM.sub (.cons _ (.cons _ (.cons _ (.cons _ (.cons _ (.cons_cons _ (List.nil_sublist _)))))))) (fun w1 hM => m_load1 hM Wh_is1_35 rfl 0 rfl rfl) ?_
     intro a hA
     refine any_tk hA 11 rfl rfl rfl rfl hP (hM.sub (.cons _ (.cons _ (.cons _ (.cons _ (.cons _ (.cons_cons _ (List.nil_sublist _)))))))) (fun w1 hM => does_move rfl) ?_
     intro a hA
     refine any_tk (v := .pointer (some ⟨bf20, of21 + i * 2, none⟩)) hA 12 rfl rfl rfl rfl hP (hM.sub (.cons _ (.cons _ (.cons _ (.cons _ (.cons _ (.cons_cons _ (List.nil_sublist _)))))))) (fun w1 hM => does_indexA Try.underlying35 (by kernel_rfl) rfl rfl rfl hf25 (show i < fs.length by omega)) ?_
     intro a hA
     refine any_tk (v := .pointer (some ⟨bf20, of21 + i * 2 + 1, none⟩)) hA 13 rfl rfl rfl rfl hP (hM.sub (.cons _ (.cons _ (.cons _ (.cons _ (.cons _ (.cons_cons _ (List.nil_sublist _)))))))) (fun w1 hM => does_field Wh_fld_88_1 rfl rfl) ?_
     intro a hA
     refine any_tk (v := .slice sj22 fd19.length cj23) hA 14 rfl rfl rfl rfl hP (hM.sub (.cons _ (.cons _ (.cons _ (.cons _ (.cons _ (.cons_cons _ (List.nil_sublist _)))))))) (fun w1 hM => m_loadR hM hf26 hf28 Wh_is1_24 rfl) ?_
     intro a hA
     refine any_many (rs := [1, 8]) (by kernel_rfl) (by simp) ⟨?_, ?_, trivial⟩
     · refine op_do hA 1 rfl rfl rfl rfl (m_load1 hM Wh_is1_35 rfl 1 rfl rfl) (hM.sub (.cons _ (.cons _ (.cons _ (.cons _ (.cons _ (.cons_cons _ (List.nil_sublist _)))))))) ?_
       intro a hA
       refine any_one (by kernel_rfl) (g_lit (e := BY) (sz := 1) (m := 0) (vs := []) hA hM 8 rfl rfl rfl rfl (does_buildSlice rfl (by kernel_rfl)) rfl rfl (.inr (noBld_cons (by simp) (noBld_cons (by simp) (noBld_cons (by simp) (noBld_cons (by simp) (noBld_cons (by simp) (noBld_cons (by simp) hnD))))))) ?_)
       intro g33 w34 hM
       refine ⟨(hM.sub (.cons _ (.cons _ (.cons _ (.cons _ (.cons _ (.cons _ (.cons_cons _ (List.nil_sublist _))))))))), ?_⟩
       intro a hA
       refine any_one (by kernel_rfl) (g_append (e := BY) (sz := 1) (k := 0) (q := 0) (m := fd19.length) (xs := []) (news := Lib.byteCells fd19) (L' := fun v35 => (.row BY 1 (v35) ((0 + fd19.length)) (([] ++ Lib.byteCells fd19)) :: .row 88 2 (.slice sf i cf) i ((cellsF gs)) :: .obj g3 (.cells #[.slice sf i cf, .slice s1 il.length c1, .slice s2 ol.length c2] 37) :: .row BY 1 (.slice s1 il.length c1) il.length ((Lib.byteCells il)) :: .row BY 1 (.slice s2 ol.length c2) ol.length ((Lib.byteCells ol)) :: .obj g4 (.cells #[.slice none 0 0, .slice none 0 0, .slice none 0 0] 37) :: .obj g2 (.cells #[.slice sF fs.length cF_, .slice sI il.length cI, .slice sO ol.length cO] 37) :: D)) hA 15 rfl rfl rfl rfl (m_appendA Try.underlying24 (by kernel_rfl) hM 0 rfl rfl (show Rb _ _ fd19 from hf29.below hM.bel) rfl (by omega)) (fun _ => rfl) ?_)
       intro v35 w36 hM
       obtain ⟨so37, ca38, rfl⟩ := owns_sliceE (hM.has 0 rfl)
       refine ⟨(hM.sub (.cons _ (.cons _ (.cons _ (.cons _ (.cons _ (.cons _ (.cons_cons _ (List.nil_sublist _))))))))), ?_⟩
       intro a hA
       refine any_tk (v := .agg #[.string fn18, .slice so37 ((0 + fd19.length)) ca38]) hA 16 rfl rfl rfl rfl hP (hM.sub (.cons _ (.cons _ (.cons _ (.cons _ (.cons _ (.cons _ (.cons_cons _ (List.nil_sublist _))))))))) (fun w1 hM => does_build rfl (fun w => by kernel_rfl)) ?_
       intro a hA
       refine any_one (by kernel_rfl) (g_lit (e := 88) (sz := 2) (m := 1) (vs := [.string fn18, .slice so37 ((0 + fd19.length)) ca38]) hA hM 17 rfl rfl rfl rfl (does_buildSlice rfl (by kernel_rfl)) rfl rfl (.inl (by decide)) ?_)
       intro g39 w40 hM
       refine ⟨(hM.sub (.cons _ (.cons _ (.cons _ (.cons _ (.cons _ (.cons _ (.cons _ (.cons_cons _ (List.nil_sublist _)))))))))), ?_⟩
       intro a hA
       refine any_one (by kernel_rfl) (g_append (e := 88) (sz := 2) (k := 2) (q := i) (m := 1) (xs := (cellsF gs)) (news := [.string fn18, .slice so37 ((0 + fd19.length)) ca38]) (L' := fun v41 => (.row 88 2 (.slice (some ⟨g39, 0, none⟩) 1 1) 1 ([.string fn18, .slice so37 ((0 + fd19.length)) ca38]) :: .row BY 1 (.slice so37 ((0 + fd19.length)) ca38) ((0 + fd19.length)) (([] ++ Lib.byteCells fd19)) :: .row 88 2 (v41) ((i + 1)) (((cellsF gs) ++ [.string fn18, .slice so37 ((0 + fd19.length)) ca38])) :: .obj g3 (.cells #[.slice sf i cf, .slice s1 il.length c1, .slice s2 ol.length c2] 37) :: .row BY 1 (.slice s1 il.length c1) il.length ((Lib.byteCells il)) :: .row BY 1 (.slice s2 ol.length c2) ol.length ((Lib.byteCells ol)) :: .obj g4 (.cells #[.slice none 0 0, .slice none 0 0, .slice none 0 0] 37) :: .obj g2 (.cells #[.slice sF fs.length cF_, .slice sI il.length cI, .slice sO ol.length cO] 37) :: D)) hA 18 rfl rfl rfl rfl (m_appendB (z := .agg #[.string ⟨#[]⟩, .slice none 0 0]) (by_ := 40) Try.underlying35 (by kernel_rfl) rfl rfl hM 2 rfl rfl 0 rfl rfl (fun u hu => List.all_eq_true.1 (rfl : ([.string fn18, .slice so37 ((0 + fd19.length)) ca38] : List Value).all Value.oneCell' = true) u hu) (by decide) (by omega) (by omega)) (fun _ => rfl) ?_)
       intro v41 w42 hM
       obtain ⟨so43, ca44, rfl⟩ := owns_sliceE (hM.has 2 rfl)
       refine ⟨(hM.sub (.cons _ (.cons _ (.cons _ (.cons _ (.cons _ (.cons _ (.cons _ (.cons_cons _ (List.nil_sublist _)))))))))), ?_⟩
       intro a hA
       refine any_tk (v := .pointer (some ⟨g3, 0, none⟩)) hA 19 rfl rfl rfl rfl hP (hM.sub (.cons _ (.cons _ (.cons _ (.cons _ (.cons _ (.cons _ (.cons _ (.cons_cons _ (List.nil_sublist _)))))))))) (fun w1 hM => does_field Wh_fld_37_0 rfl rfl) ?_
       intro a hA
       refine any_one (by kernel_rfl) (g_store (us := [.slice so43 ((i + 1)) ca44, .slice s1 il.length c1, .slice s2 ol.length c2]) (L' := (.row 88 2 (.slice (some ⟨g39, 0, none⟩) 1 1) 1 ([.string fn18, .slice so37 ((0 + fd19.length)) ca38]) :: .row BY 1 (.slice so37 ((0 + fd19.length)) ca38) ((0 + fd19.length)) (([] ++ Lib.byteCells fd19)) :: .row 88 2 (.slice so43 ((i + 1)) ca44) ((i + 1)) (((cellsF gs) ++ [.string fn18, .slice so37 ((0 + fd19.length)) ca38])) :: .obj g3 (.cells #[.slice so43 ((i + 1)) ca44, .slice s1 il.length c1, .slice s2 ol.length c2] 37) :: .row BY 1 (.slice s1 il.length c1) il.length ((Lib.byteCells il)) :: .row BY 1 (.slice s2 ol.length c2) ol.length ((Lib.byteCells ol)) :: .obj g4 (.cells #[.slice none 0 0, .slice none 0 0, .slice none 0 0] 37) :: .obj g2 (.cells #[.slice sF fs.length cF_, .slice sI il.length cI, .slice sO ol.length cO] 37) :: D)) hA hM 20 rfl rfl rfl (m_store rfl rfl rfl (by kernel_rfl) hM 3 rfl rfl rfl) 3 rfl rfl rfl ?_)
       intro w45 hM
       refine ⟨(hM.sub (.cons _ (.cons _ (.cons _ (.cons _ (.cons _ (.cons _ (.cons _ (.cons_cons _ (List.nil_sublist _)))))))))), ?_⟩
       refine any_end (by kernel_rfl) ?_
       replace hM : Mg w w45 (.row BY 1 (.slice so37 ((0 + fd19.length)) ca38) ((0 + fd19.length)) (([] ++ Lib.byteCells fd19)) :: .row 88 2 (.slice so43 ((i + 1)) ca44) ((i + 1)) (((cellsF gs) ++ [.string fn18, .slice so37 ((0 + fd19.length)) ca38])) :: .obj g3 (.cells #[.slice so43 ((i + 1)) ca44, .slice s1 il.length c1, .slice s2 ol.length c2] 37) :: .row BY 1 (.slice s1 il.length c1) il.length ((Lib.byteCells il)) :: .row BY 1 (.slice s2 ol.length c2) ol.length ((Lib.byteCells ol)) :: .obj g4 (.cells #[.slice none 0 0, .slice none 0 0, .slice none 0 0] 37) :: .obj g2 (.cells #[.slice sF fs.length cF_, .slice sI il.length cI, .slice sO ol.length cO] 37) :: D) := by
         have h9 := hM.sub (.cons _ (.cons_cons _ (.cons_cons _ (.cons_cons _ (.cons_cons _ (.cons_cons _ (.cons_cons _ (.cons_cons _ (.refl _)))))))))
         exact h9
       replace hM : Mg w w45 (.obj g2 (.cells #[.slice sF fs.length cF_, .slice sI il.length cI, .slice sO ol.length cO] 37) :: .row BY 1 (.slice so37 ((0 + fd19.length)) ca38) ((0 + fd19.length)) (([] ++ Lib.byteCells fd19)) :: .row 88 2 (.slice so43 ((i + 1)) ca44) ((i + 1)) (((cellsF gs) ++ [.string fn18, .slice so37 ((0 + fd19.length)) ca38])) :: .obj g3 (.cells #[.slice so43 ((i + 1)) ca44, .slice s1 il.length c1, .slice s2 ol.length c2] 37) :: .row BY 1 (.slice s1 il.length c1) il.length ((Lib.byteCells il)) :: .row BY 1 (.slice s2 ol.length c2) ol.length ((Lib.byteCells ol)) :: .obj g4 (.cells #[.slice none 0 0, .slice none 0 0, .slice none 0 0] 37) :: D) := hM.perm (List.perm_middle (l₁ := [_, _, _, _, _, _]))
       replace hM : Mg w w45 (.obj g4 (.cells #[.slice none 0 0, .slice none 0 0, .slice none 0 0] 37) :: .obj g2 (.cells #[.slice sF fs.length cF_, .slice sI il.length cI, .slice sO ol.length cO] 37) :: .row BY 1 (.slice so37 ((0 + fd19.length)) ca38) ((0 + fd19.length)) (([] ++ Lib.byteCells fd19)) :: .row 88 2 (.slice so43 ((i + 1)) ca44) ((i + 1)) (((cellsF gs) ++ [.string fn18, .slice so37 ((0 + fd19.length)) ca38])) :: .obj g3 (.cells #[.slice so43 ((i + 1)) ca44, .slice s1 il.length c1, .slice s2 ol.length c2] 37) :: .row BY 1 (.slice s1 il.length c1) il.length ((Lib.byteCells il)) :: .row BY 1 (.slice s2 ol.length c2) ol.length ((Lib.byteCells ol)) :: D) := hM.perm (List.perm_middle (l₁ := [_, _, _, _, _, _]))
       replace hM : Mg w w45 (.row BY 1 (.slice s2 ol.length c2) ol.length ((Lib.byteCells ol)) :: .obj g4 (.cells #[.slice none 0 0, .slice none 0 0, .slice none 0 0] 37) :: .obj g2 (.cells #[.slice sF fs.length cF_, .slice sI il.length cI, .slice sO ol.length cO] 37) :: .row BY 1 (.slice so37 ((0 + fd19.length)) ca38) ((0 + fd19.length)) (([] ++ Lib.byteCells fd19)) :: .row 88 2 (.slice so43 ((i + 1)) ca44) ((i + 1)) (((cellsF gs) ++ [.string fn18, .slice so37 ((0 + fd19.length)) ca38])) :: .obj g3 (.cells #[.slice so43 ((i + 1)) ca44, .slice s1 il.length c1, .slice s2 ol.length c2] 37) :: .row BY 1 (.slice s1 il.length c1) il.length ((Lib.byteCells il)) :: D) := hM.perm (List.perm_middle (l₁ := [_, _, _, _, _, _]))
       replace hM : Mg w w45 (.row BY 1 (.slice s1 il.length c1) il.length ((Lib.byteCells il)) :: .row BY 1 (.slice s2 ol.length c2) ol.length ((Lib.byteCells ol)) :: .obj g4 (.cells #[.slice none 0 0, .slice none 0 0, .slice none 0 0] 37) :: .obj g2 (.cells #[.slice sF fs.length cF_, .slice sI il.length cI, .slice sO ol.length cO] 37) :: .row BY 1 (.slice so37 ((0 + fd19.length)) ca38) ((0 + fd19.length)) (([] ++ Lib.byteCells fd19)) :: .row 88 2 (.slice so43 ((i + 1)) ca44) ((i + 1)) (((cellsF gs) ++ [.string fn18, .slice so37 ((0 + fd19.length)) ca38])) :: .obj g3 (.cells #[.slice so43 ((i + 1)) ca44, .slice s1 il.length c1, .slice s2 ol.length c2] 37) :: D) := hM.perm (List.perm_middle (l₁ := [_, _, _, _, _, _]))
       replace hM : Mg w w45 (.obj g3 (.cells #[.slice so43 ((i + 1)) ca44, .slice s1 il.length c1, .slice s2 ol.length c2] 37) :: .row BY 1 (.slice s1 il.length c1) il.length ((Lib.byteCells il)) :: .row BY 1 (.slice s2 ol.length c2) ol.length ((Lib.byteCells ol)) :: .obj g4 (.cells #[.slice none 0 0, .slice none 0 0, .slice none 0 0] 37) :: .obj g2 (.cells #[.slice sF fs.length cF_, .slice sI il.length cI, .slice sO ol.length cO] 37) :: .row BY 1 (.slice so37 ((0 + fd19.length)) ca38) ((0 + fd19.length)) (([] ++ Lib.byteCells fd19)) :: .row 88 2 (.slice so43 ((i + 1)) ca44) ((i + 1)) (((cellsF gs) ++ [.string fn18, .slice so37 ((0 + fd19.length)) ca38])) :: D) := hM.perm (List.perm_middle (l₁ := [_, _, _, _, _, _]))
       replace hM : Mg w w45 (.row BY 1 (.slice so37 ((0 + fd19.length)) ca38) ((0 + fd19.length)) (([] ++ Lib.byteCells fd19)) :: .obj g3 (.cells #[.slice so43 ((i + 1)) ca44, .slice s1 il.length c1, .slice s2 ol.length c2] 37) :: .row BY 1 (.slice s1 il.length c1) il.length ((Lib.byteCells il)) :: .row BY 1 (.slice s2 ol.length c2) ol.length ((Lib.byteCells ol)) :: .obj g4 (.cells #[.slice none 0 0, .slice none 0 0, .slice none 0 0] 37) :: .obj g2 (.cells #[.slice sF fs.length cF_, .slice sI il.length cI, .slice sO ol.length cO] 37) :: .row 88 2 (.slice so43 ((i + 1)) ca44) ((i + 1)) (((cellsF gs) ++ [.string fn18, .slice so37 ((0 + fd19.length)) ca38])) :: D) := hM.perm (List.perm_middle (l₁ := [_, _, _, _, _]))
       replace hM : Mg w w45 (.row 88 2 (.slice so43 ((i + 1)) ca44) ((i + 1)) (((cellsF gs) ++ [.string fn18, .slice so37 ((0 + fd19.length)) ca38])) :: .row BY 1 (.slice so37 ((0 + fd19.length)) ca38) ((0 + fd19.length)) (([] ++ Lib.byteCells fd19)) :: .obj g3 (.cells #[.slice so43 ((i + 1)) ca44, .slice s1 il.length c1, .slice s2 ol.length c2] 37) :: .row BY 1 (.slice s1 il.length c1) il.length ((Lib.byteCells il)) :: .row BY 1 (.slice s2 ol.length c2) ol.length ((Lib.byteCells ol)) :: .obj g4 (.cells #[.slice none 0 0, .slice none 0 0, .slice none 0 0] 37) :: .obj g2 (.cells #[.slice sF fs.length cF_, .slice sI il.length cI, .slice sO ol.length cO] 37) :: D) := hM.perm (List.perm_middle (l₁ := [_, _, _, _, _, _]))
       exact hJ31 _ _ ⟨so43, ca44, so37, ca38, hA.keep _ ⟨rfl, rfl, rfl, rfl, rfl, rfl, rfl, rfl, rfl, rfl, trivial⟩, hM⟩
     · refine g_lit (e := BY) (sz := 1) (m := 0) (vs := []) hA hM 8 rfl rfl rfl rfl (does_buildSlice rfl (by kernel_rfl)) rfl rfl (.inr (noBld_cons (by simp) (noBld_cons (by simp) (noBld_cons (by simp) (noBld_cons (by simp) (noBld_cons (by simp) (noBld_cons (by simp) hnD))))))) ?_
       intro g46 w47 hM
       refine ⟨(hM.sub (.cons _ (.cons _ (.cons _ (.cons _ (.cons _ (.cons _ (.cons_cons _ (List.nil_sublist _))))))))), ?_⟩
       intro a hA
       refine any_many (rs := [1, 15]) (by kernel_rfl) (by simp) ⟨?_, ?_, trivial⟩
       · refine op_do hA 1 rfl rfl rfl rfl (m_load1 hM Wh_is1_35 rfl 2 rfl rfl) (hM.sub (.cons _ (.cons _ (.cons _ (.cons _ (.cons _ (.cons _ (.cons_cons _ (List.nil_sublist _))))))))) ?_
         intro a hA
         refine any_one (by kernel_rfl) (g_append (e := BY) (sz := 1) (k := 0) (q := 0) (m := fd19.length) (xs := []) (news := Lib.byteCells fd19) (L' := fun v48 => (.row BY 1 (v48) ((0 + fd19.length)) (([] ++ Lib.byteCells fd19)) :: .row 88 2 (.slice sf i cf) i ((cellsF gs)) :: .obj g3 (.cells #[.slice sf i cf, .slice s1 il.length c1, .slice s2 ol.length c2] 37) :: .row BY 1 (.slice s1 il.length c1) il.length ((Lib.byteCells il)) :: .row BY 1 (.slice s2 ol.length c2) ol.length ((Lib.byteCells ol)) :: .obj g4 (.cells #[.slice none 0 0, .slice none 0 0, .slice none 0 0] 37) :: .obj g2 (.cells #[.slice sF fs.length cF_, .slice sI il.length cI, .slice sO ol.length cO] 37) :: D)) hA 15 rfl rfl rfl rfl (m_appendA Try.underlying24 (by kernel_rfl) hM 0 rfl rfl (show Rb _ _ fd19 from hf29.below hM.bel) rfl (by omega)) (fun _ => rfl) ?_)
         intro v48 w49 hM
         obtain ⟨so50, ca51, rfl⟩ := owns_sliceE (hM.has 0 rfl)
         refine ⟨(hM.sub (.cons _ (.cons _ (.cons _ (.cons _ (.cons _ (.cons _ (.cons_cons _ (List.nil_sublist _))))))))), ?_⟩
         intro a hA
         refine any_tk (v := .agg #[.string fn18, .slice so50 ((0 + fd19.length)) ca51]) hA 16 rfl rfl rfl rfl hP (hM.sub (.cons _ (.cons _ (.cons _ (.cons _ (.cons _ (.cons _ (.cons_cons _ (List.nil_sublist _))))))))) (fun w1 hM => does_build rfl (fun w => by kernel_rfl)) ?_
         intro a hA
         refine any_one (by kernel_rfl) (g_lit (e := 88) (sz := 2) (m := 1) (vs := [.string fn18, .slice so50 ((0 + fd19.length)) ca51]) hA hM 17 rfl rfl rfl rfl (does_buildSlice rfl (by kernel_rfl)) rfl rfl (.inl (by decide)) ?_)
         intro g52 w53 hM
         refine ⟨(hM.sub (.cons _ (.cons _ (.cons _ (.cons _ (.cons _ (.cons _ (.cons _ (.cons_cons _ (List.nil_sublist _)))))))))), ?_⟩
         intro a hA
         refine any_one (by kernel_rfl) (g_append (e := 88) (sz := 2) (k := 2) (q := i) (m := 1) (xs := (cellsF gs)) (news := [.string fn18, .slice so50 ((0 + fd19.length)) ca51]) (L' := fun v54 => (.row 88 2 (.slice (some ⟨g52, 0, none⟩) 1 1) 1 ([.string fn18, .slice so50 ((0 + fd19.length)) ca51]) :: .row BY 1 (.slice so50 ((0 + fd19.length)) ca51) ((0 + fd19.length)) (([] ++ Lib.byteCells fd19)) :: .row 88 2 (v54) ((i + 1)) (((cellsF gs) ++ [.string fn18, .slice so50 ((0 + fd19.length)) ca51])) :: .obj g3 (.cells #[.slice sf i cf, .slice s1 il.length c1, .slice s2 ol.length c2] 37) :: .row BY 1 (.slice s1 il.length c1) il.length ((Lib.byteCells il)) :: .row BY 1 (.slice s2 ol.length c2) ol.length ((Lib.byteCells ol)) :: .obj g4 (.cells #[.slice none 0 0, .slice none 0 0, .slice none 0 0] 37) :: .obj g2 (.cells #[.slice sF fs.length cF_, .slice sI il.length cI, .slice sO ol.length cO] 37) :: D)) hA 18 rfl rfl rfl rfl (m_appendB (z := .agg #[.string ⟨#[]⟩, .slice none 0 0]) (by_ := 40) Try.underlying35 (by kernel_rfl) rfl rfl hM 2 rfl rfl 0 rfl rfl (fun u hu => List.all_eq_true.1 (rfl : ([.string fn18, .slice so50 ((0 + fd19.length)) ca51] : List Value).all Value.oneCell' = true) u hu) (by decide) (by omega) (by omega)) (fun _ => rfl) ?_)
         intro v54 w55 hM
         obtain ⟨so56, ca57, rfl⟩ := owns_sliceE (hM.has 2 rfl)
         refine ⟨(hM.sub (.cons _ (.cons _ (.cons _ (.cons _ (.cons _ (.cons _ (.cons _ (.cons_cons _ (List.nil_sublist _)))))))))), ?_⟩
         intro a hA
         refine any_tk (v := .pointer (some ⟨g3, 0, none⟩)) hA 19 rfl rfl rfl rfl hP (hM.sub (.cons _ (.cons _ (.cons _ (.cons _ (.cons _ (.cons _ (.cons _ (.cons_cons _ (List.nil_sublist _)))))))))) (fun w1 hM => does_field Wh_fld_37_0 rfl rfl) ?_
         intro a hA
         refine any_one (by kernel_rfl) (g_store (us := [.slice so56 ((i + 1)) ca57, .slice s1 il.length c1, .slice s2 ol.length c2]) (L' := (.row 88 2 (.slice (some ⟨g52, 0, none⟩) 1 1) 1 ([.string fn18, .slice so50 ((0 + fd19.length)) ca51]) :: .row BY 1 (.slice so50 ((0 + fd19.length)) ca51) ((0 + fd19.length)) (([] ++ Lib.byteCells fd19)) :: .row 88 2 (.slice so56 ((i + 1)) ca57) ((i + 1)) (((cellsF gs) ++ [.string fn18, .slice so50 ((0 + fd19.length)) ca51])) :: .obj g3 (.cells #[.slice so56 ((i + 1)) ca57, .slice s1 il.length c1, .slice s2 ol.length c2] 37) :: .row BY 1 (.slice s1 il.length c1) il.length ((Lib.byteCells il)) :: .row BY 1 (.slice s2 ol.length c2) ol.length ((Lib.byteCells ol)) :: .obj g4 (.cells #[.slice none 0 0, .slice none 0 0, .slice none 0 0] 37) :: .obj g2 (.cells #[.slice sF fs.length cF_, .slice sI il.length cI, .slice sO ol.length cO] 37) :: D)) hA hM 20 rfl rfl rfl (m_store rfl rfl rfl (by kernel_rfl) hM 3 rfl rfl rfl) 3 rfl rfl rfl ?_)
         intro w58 hM
         refine ⟨(hM.sub (.cons _ (.cons _ (.cons _ (.cons _ (.cons _ (.cons _ (.cons _ (.cons_cons _ (List.nil_sublist _)))))))))), ?_⟩
         refine any_end (by kernel_rfl) ?_
         replace hM : Mg w w58 (.row BY 1 (.slice so50 ((0 + fd19.length)) ca51) ((0 + fd19.length)) (([] ++ Lib.byteCells fd19)) :: .row 88 2 (.slice so56 ((i + 1)) ca57) ((i + 1)) (((cellsF gs) ++ [.string fn18, .slice so50 ((0 + fd19.length)) ca51])) :: .obj g3 (.cells #[.slice so56 ((i + 1)) ca57, .slice s1 il.length c1, .slice s2 ol.length c2] 37) :: .row BY 1 (.slice s1 il.length c1) il.length ((Lib.byteCells il)) :: .row BY 1 (.slice s2 ol.length c2) ol.length ((Lib.byteCells ol)) :: .obj g4 (.cells #[.slice none 0 0, .slice none 0 0, .slice none 0 0] 37) :: .obj g2 (.cells #[.slice sF fs.length cF_, .slice sI il.length cI, .slice sO ol.length cO] 37) :: D) := by
           have h9 := hM.sub (.cons _ (.cons_cons _ (.cons_cons _ (.cons_cons _ (.cons_cons _ (.cons_cons _ (.cons_cons _ (.cons_cons _ (.refl _)))))))))
           exact h9
         replace hM : Mg w w58 (.obj g2 (.cells #[.slice sF fs.length cF_, .slice sI il.length cI, .slice sO ol.length cO] 37) :: .row BY 1 (.slice so50 ((0 + fd19.length)) ca51) ((0 + fd19.length)) (([] ++ Lib.byteCells fd19)) :: .row 88 2 (.slice so56 ((i + 1)) ca57) ((i + 1)) (((cellsF gs) ++ [.string fn18, .slice so50 ((0 + fd19.length)) ca51])) :: .obj g3 (.cells #[.slice so56 ((i + 1)) ca57, .slice s1 il.length c1, .slice s2 ol.length c2] 37) :: .row BY 1 (.slice s1 il.length c1) il.length ((Lib.byteCells il)) :: .row BY 1 (.slice s2 ol.length c2) ol.length ((Lib.byteCells ol)) :: .obj g4 (.cells #[.slice none 0 0, .slice none 0 0, .slice none 0 0] 37) :: D) := hM.perm (List.perm_middle (l₁ := [_, _, _, _, _, _]))
         replace hM : Mg w w58 (.obj g4 (.cells #[.slice none 0 0, .slice none 0 0, .slice none 0 0] 37) :: .obj g2 (.cells #[.slice sF fs.length cF_, .slice sI il.length cI, .slice sO ol.length cO] 37) :: .row BY 1 (.slice so50 ((0 + fd19.length)) ca51) ((0 + fd19.length)) (([] ++ Lib.byteCells fd19)) :: .row 88 2 (.slice so56 ((i + 1)) ca57) ((i + 1)) (((cellsF gs) ++ [.string fn18, .slice so50 ((0 + fd19.length)) ca51])) :: .obj g3 (.cells #[.slice so56 ((i + 1)) ca57, .slice s1 il.length c1, .slice s2 ol.length c2] 37) :: .row BY 1 (.slice s1 il.length c1) il.length ((Lib.byteCells il)) :: .row BY 1 (.slice s2 ol.length c2) ol.length ((Lib.byteCells ol)) :: D) := hM.perm (List.perm_middle (l₁ := [_, _, _, _, _, _]))
         replace hM : Mg w w58 (.row BY 1 (.slice s2 ol.length c2) ol.length ((Lib.byteCells ol)) :: .obj g4 (.cells #[.slice none 0 0, .slice none 0 0, .slice none 0 0] 37) :: .obj g2 (.cells #[.slice sF fs.length cF_, .slice sI il.length cI, .slice sO ol.length cO] 37) :: .row BY 1 (.slice so50 ((0 + fd19.length)) ca51) ((0 + fd19.length)) (([] ++ Lib.byteCells fd19)) :: .row 88 2 (.slice so56 ((i + 1)) ca57) ((i + 1)) (((cellsF gs) ++ [.string fn18, .slice so50 ((0 + fd19.length)) ca51])) :: .obj g3 (.cells #[.slice so56 ((i + 1)) ca57, .slice s1 il.length c1, .slice s2 ol.length c2] 37) :: .row BY 1 (.slice s1 il.length c1) il.length ((Lib.byteCells il)) :: D) := hM.perm (List.perm_middle (l₁ := [_, _, _, _, _, _]))
         replace hM : Mg w w58 (.row BY 1 (.slice s1 il.length c1) il.length ((Lib.byteCells il)) :: .row BY 1 (.slice s2 ol.length c2) ol.length ((Lib.byteCells ol)) :: .obj g4 (.cells #[.slice none 0 0, .slice none 0 0, .slice none 0 0] 37) :: .obj g2 (.cells #[.slice sF fs.length cF_, .slice sI il.length cI, .slice sO ol.length cO] 37) :: .row BY 1 (.slice so50 ((0 + fd19.length)) ca51) ((0 + fd19.length)) (([] ++ Lib.byteCells fd19)) :: .row 88 2 (.slice so56 ((i + 1)) ca57) ((i + 1)) (((cellsF gs) ++ [.string fn18, .slice so50 ((0 + fd19.length)) ca51])) :: .obj g3 (.cells #[.slice so56 ((i + 1)) ca57, .slice s1 il.length c1, .slice s2 ol.length c2] 37) :: D) := hM.perm (List.perm_middle (l₁ := [_, _, _, _, _, _]))
         replace hM : Mg w w58 (.obj g3 (.cells #[.slice so56 ((i + 1)) ca57, .slice s1 il.length c1, .slice s2 ol.length c2] 37) :: .row BY 1 (.slice s1 il.length c1) il.length ((Lib.byteCells il)) :: .row BY 1 (.slice s2 ol.length c2) ol.length ((Lib.byteCells ol)) :: .obj g4 (.cells #[.slice none 0 0, .slice none 0 0, .slice none 0 0] 37) :: .obj g2 (.cells #[.slice sF fs.length cF_, .slice sI il.length cI, .slice sO ol.length cO] 37) :: .row BY 1 (.slice so50 ((0 + fd19.length)) ca51) ((0 + fd19.length)) (([] ++ Lib.byteCells fd19)) :: .row 88 2 (.slice so56 ((i + 1)) ca57) ((i + 1)) (((cellsF gs) ++ [.string fn18, .slice so50 ((0 + fd19.length)) ca51])) :: D) := hM.perm (List.perm_middle (l₁ := [_, _, _, _, _, _]))
         replace hM : Mg w w58 (.row BY 1 (.slice so50 ((0 + fd19.length)) ca51) ((0 + fd19.length)) (([] ++ Lib.byteCells fd19)) :: .obj g3 (.cells #[.slice so56 ((i + 1)) ca57, .slice s1 il.length c1, .slice s2 ol.length c2] 37) :: .row BY 1 (.slice s1 il.length c1) il.length ((Lib.byteCells il)) :: .row BY 1 (.slice s2 ol.length c2) ol.length ((Lib.byteCells ol)) :: .obj g4 (.cells #[.slice none 0 0, .slice none 0 0, .slice none 0 0] 37) :: .obj g2 (.cells #[.slice sF fs.length cF_, .slice sI il.length cI, .slice sO ol.length cO] 37) :: .row 88 2 (.slice so56 ((i + 1)) ca57) ((i + 1)) (((cellsF gs) ++ [.string fn18, .slice so50 ((0 + fd19.length)) ca51])) :: D) := hM.perm (List.perm_middle (l₁ := [_, _, _, _, _]))
         replace hM : Mg w w58 (.row 88 2 (.slice so56 ((i + 1)) ca57) ((i + 1)) (((cellsF gs) ++ [.string fn18, .slice so50 ((0 + fd19.length)) ca51])) :: .row BY 1 (.slice so50 ((0 + fd19.length)) ca51) ((0 + fd19.length)) (([] ++ Lib.byteCells fd19)) :: .obj g3 (.cells #[.slice so56 ((i + 1)) ca57, .slice s1 il.length c1, .slice s2 ol.length c2] 37) :: .row BY 1 (.slice s1 il.length c1) il.length ((Lib.byteCells il)) :: .row BY 1 (.slice s2 ol.length c2) ol.length ((Lib.byteCells ol)) :: .obj g4 (.cells #[.slice none 0 0, .slice none 0 0, .slice none 0 0] 37) :: .obj g2 (.cells #[.slice sF fs.length cF_, .slice sI il.length cI, .slice sO ol.length cO] 37) :: D) := hM.perm (List.perm_middle (l₁ := [_, _, _, _, _, _]))
         exact hJ31 _ _ ⟨so56, ca57, so50, ca51, hA.keep _ ⟨rfl, rfl, rfl, rfl, rfl, rfl, rfl, rfl, rfl, rfl, trivial⟩, hM⟩
       · refine g_append (e := BY) (sz := 1) (k := 0) (q := 0) (m := fd19.length) (xs := []) (news := Lib.byteCells fd19) (L' := fun v59 => (.row BY 1 (v59) ((0 + fd19.length)) (([] ++ Lib.byteCells fd19)) :: .row 88 2 (.slice sf i cf) i ((cellsF gs)) :: .obj g3 (.cells #[.slice sf i cf, .slice s1 il.length c1, .slice s2 ol.length c2] 37) :: .row BY 1 (.slice s1 il.length c1) il.length ((Lib.byteCells il)) :: .row BY 1 (.slice s2 ol.length c2) ol.length ((Lib.byteCells ol)) :: .obj g4 (.cells #[.slice none 0 0, .slice none 0 0, .slice none 0 0] 37) :: .obj g2 (.cells #[.slice sF fs.length cF_, .slice sI il.length cI, .slice sO ol.length cO] 37) :: D)) hA 15 rfl rfl rfl rfl (m_appendA Try.underlying24 (by kernel_rfl) hM 0 rfl rfl (show Rb _ _ fd19 from hf29.below hM.bel) rfl (by omega)) (fun _ => rfl) ?_
         intro v59 w60 hM
         obtain ⟨so61, ca62, rfl⟩ := owns_sliceE (hM.has 0 rfl)
         refine ⟨(hM.sub (.cons _ (.cons _ (.cons _ (.cons _ (.cons _ (.cons _ (.cons_cons _ (List.nil_sublist _))))))))), ?_⟩
         intro a hA
         refine any_tk (v := .agg #[.string fn18, .slice so61 ((0 + fd19.length)) ca62]) hA 16 rfl rfl rfl rfl hP (hM.sub (.cons _ (.cons _ (.cons _ (.cons _ (.cons _ (.cons _ (.cons_cons _ (List.nil_sublist _))))))))) (fun w1 hM => does_build rfl (fun w => by kernel_rfl)) ?_
         intro a hA
         refine any_many (rs := [1, 17]) (by kernel_rfl) (by simp) ⟨?_, ?_, trivial⟩
         · refine op_do hA 1 rfl rfl rfl rfl (m_load1 hM Wh_is1_35 rfl 2 rfl rfl) (hM.sub (.cons _ (.cons _ (.cons _ (.cons _ (.cons _ (.cons _ (.cons_cons _ (List.nil_sublist _))))))))) ?_
           intro a hA
           refine any_one (by kernel_rfl) (g_lit (e := 88) (sz := 2) (m := 1) (vs := [.string fn18, .slice so61 ((0 + fd19.length)) ca62]) hA hM 17 rfl rfl rfl rfl (does_buildSlice rfl (by kernel_rfl)) rfl rfl (.inl (by decide)) ?_)
           intro g63 w64 hM
           refine ⟨(hM.sub (.cons _ (.cons _ (.cons _ (.cons _ (.cons _ (.cons _ (.cons _ (.cons_cons _ (List.nil_sublist _)))))))))), ?_⟩
           intro a hA
           refine any_one (by kernel_rfl) (g_append (e := 88) (sz := 2) (k := 2) (q := i) (m := 1) (xs := (cellsF gs)) (news := [.string fn18, .slice so61 ((0 + fd19.length)) ca62]) (L' := fun v65 => (.row 88 2 (.slice (some ⟨g63, 0, none⟩) 1 1) 1 ([.string fn18, .slice so61 ((0 + fd19.length)) ca62]) :: .row BY 1 (.slice so61 ((0 + fd19.length)) ca62) ((0 + fd19.length)) (([] ++ Lib.byteCells fd19)) :: .row 88 2 (v65) ((i + 1)) (((cellsF gs) ++ [.string fn18, .slice so61 ((0 + fd19.length)) ca62])) :: .obj g3 (.cells #[.slice sf i cf, .slice s1 il.length c1, .slice s2 ol.length c2] 37) :: .row BY 1 (.slice s1 il.length c1) il.length ((Lib.byteCells il)) :: .row BY 1 (.slice s2 ol.length c2) ol.length ((Lib.byteCells ol)) :: .obj g4 (.cells #[.slice none 0 0, .slice none 0 0, .slice none 0 0] 37) :: .obj g2 (.cells #[.slice sF fs.length cF_, .slice sI il.length cI, .slice sO ol.length cO] 37) :: D)) hA 18 rfl rfl rfl rfl (m_appendB (z := .agg #[.string ⟨#[]⟩, .slice none 0 0]) (by_ := 40) Try.underlying35 (by kernel_rfl) rfl rfl hM 2 rfl rfl 0 rfl rfl (fun u hu => List.all_eq_true.1 (rfl : ([.string fn18, .slice so61 ((0 + fd19.length)) ca62] : List Value).all Value.oneCell' = true) u hu) (by decide) (by omega) (by omega)) (fun _ => rfl) ?_)
           intro v65 w66 hM
           obtain ⟨so67, ca68, rfl⟩ := owns_sliceE (hM.has 2 rfl)
           refine ⟨(hM.sub (.cons _ (.cons _ (.cons _ (.cons _ (.cons _ (.cons _ (.cons _ (.cons_cons _ (List.nil_sublist _)))))))))), ?_⟩
           intro a hA
           refine any_tk (v := .pointer (some ⟨g3, 0, none⟩)) hA 19 rfl rfl rfl rfl hP (hM.sub (.cons _ (.cons _ (.cons _ (.cons _ (.cons _ (.cons _ (.cons _ (.cons_cons _ (List.nil_sublist _)))))))))) (fun w1 hM => does_field Wh_fld_37_0 rfl rfl) ?_
           intro a hA
           refine any_one (by kernel_rfl) (g_store (us := [.slice so67 ((i + 1)) ca68, .slice s1 il.length c1, .slice s2 ol.length c2]) (L' := (.row 88 2 (.slice (some ⟨g63, 0, none⟩) 1 1) 1 ([.string fn18, .slice so61 ((0 + fd19.length)) ca62]) :: .row BY 1 (.slice so61 ((0 + fd19.length)) ca62) ((0 + fd19.length)) (([] ++ Lib.byteCells fd19)) :: .row 88 2 (.slice so67 ((i + 1)) ca68) ((i + 1)) (((cellsF gs) ++ [.string fn18, .slice so61 ((0 + fd19.length)) ca62])) :: .obj g3 (.cells #[.slice so67 ((i + 1)) ca68, .slice s1 il.length c1, .slice s2 ol.length c2] 37) :: .row BY 1 (.slice s1 il.length c1) il.length ((Lib.byteCells il)) :: .row BY 1 (.slice s2 ol.length c2) ol.length ((Lib.byteCells ol)) :: .obj g4 (.cells #[.slice none 0 0, .slice none 0 0, .slice none 0 0] 37) :: .obj g2 (.cells #[.slice sF fs.length cF_, .slice sI il.length cI, .slice sO ol.length cO] 37) :: D)) hA hM 20 rfl rfl rfl (m_store rfl rfl rfl (by kernel_rfl) hM 3 rfl rfl rfl) 3 rfl rfl rfl ?_)
           intro w69 hM
           refine ⟨(hM.sub (.cons _ (.cons _ (.cons _ (.cons _ (.cons _ (.cons _ (.cons _ (.cons_cons _ (List.nil_sublist _)))))))))), ?_⟩
           refine any_end (by kernel_rfl) ?_
           replace hM : Mg w w69 (.row BY 1 (.slice so61 ((0 + fd19.length)) ca62) ((0 + fd19.length)) (([] ++ Lib.byteCells fd19)) :: .row 88 2 (.slice so67 ((i + 1)) ca68) ((i + 1)) (((cellsF gs) ++ [.string fn18, .slice so61 ((0 + fd19.length)) ca62])) :: .obj g3 (.cells #[.slice so67 ((i + 1)) ca68, .slice s1 il.length c1, .slice s2 ol.length c2] 37) :: .row BY 1 (.slice s1 il.length c1) il.length ((Lib.byteCells il)) :: .row BY 1 (.slice s2 ol.length c2) ol.length ((Lib.byteCells ol)) :: .obj g4 (.cells #[.slice none 0 0, .slice none 0 0, .slice none 0 0] 37) :: .obj g2 (.cells #[.slice sF fs.length cF_, .slice sI il.length cI, .slice sO ol.length cO] 37) :: D) := by
             have h9 := hM.sub (.cons _ (.cons_cons _ (.cons_cons _ (.cons_cons _ (.cons_cons _ (.cons_cons _ (.cons_cons _ (.cons_cons _ (.refl _)))))))))
             exact h9
           replace hM : Mg w w69 (.obj g2 (.cells #[.slice sF fs.length cF_, .slice sI il.length cI, .slice sO ol.length cO] 37) :: .row BY 1 (.slice so61 ((0 + fd19.length)) ca62) ((0 + fd19.length)) (([] ++ Lib.byteCells fd19)) :: .row 88 2 (.slice so67 ((i + 1)) ca68) ((i + 1)) (((cellsF gs) ++ [.string fn18, .slice so61 ((0 + fd19.length)) ca62])) :: .obj g3 (.cells #[.slice so67 ((i + 1)) ca68, .slice s1 il.length c1, .slice s2 ol.length c2] 37) :: .row BY 1 (.slice s1 il.length c1) il.length ((Lib.byteCells il)) :: .row BY 1 (.slice s2 ol.length c2) ol.length ((Lib.byteCells ol)) :: .obj g4 (.cells #[.slice none 0 0, .slice none 0 0, .slice none 0 0] 37) :: D) := hM.perm (List.perm_middle (l₁ := [_, _, _, _, _, _]))
           replace hM : Mg w w69 (.obj g4 (.cells #[.slice none 0 0, .slice none 0 0, .slice none 0 0] 37) :: .obj g2 (.cells #[.slice sF fs.length cF_, .slice sI il.length cI, .slice sO ol.length cO] 37) :: .row BY 1 (.slice so61 ((0 + fd19.length)) ca62) ((0 + fd19.length)) (([] ++ Lib.byteCells fd19)) :: .row 88 2 (.slice so67 ((i + 1)) ca68) ((i + 1)) (((cellsF gs) ++ [.string fn18, .slice so61 ((0 + fd19.length)) ca62])) :: .obj g3 (.cells #[.slice so67 ((i + 1)) ca68, .slice s1 il.length c1, .slice s2 ol.length c2] 37) :: .row BY 1 (.slice s1 il.length c1) il.length ((Lib.byteCells il)) :: .row BY 1 (.slice s2 ol.length c2) ol.length ((Lib.byteCells ol)) :: D) := hM.perm (List.perm_middle (l₁ := [_, _, _, _, _, _]))
           replace hM : Mg w w69 (.row BY 1 (.slice s2 ol.length c2) ol.length ((Lib.byteCells ol)) :: .obj g4 (.cells #[.slice none 0 0, .slice none 0 0, .slice none 0 0] 37) :: .obj g2 (.cells #[.slice sF fs.length cF_, .slice sI il.length cI, .slice sO ol.length cO] 37) :: .row BY 1 (.slice so61 ((0 + fd19.length)) ca62) ((0 + fd19.length)) (([] ++ Lib.byteCells fd19)) :: .row 88 2 (.slice so67 ((i + 1)) ca68) ((i + 1)) (((cellsF gs) ++ [.string fn18, .slice so61 ((0 + fd19.length)) ca62])) :: .obj g3 (.cells #[.slice so67 ((i + 1)) ca68, .slice s1 il.length c1, .slice s2 ol.length c2] 37) :: .row BY 1 (.slice s1 il.length c1) il.length ((Lib.byteCells il)) :: D) := hM.perm (List.perm_middle (l₁ := [_, _, _, _, _, _]))
           replace hM : Mg w w69 (.row BY 1 (.slice s1 il.length c1) il.length ((Lib.byteCells il)) :: .row BY 1 (.slice s2 ol.length c2) ol.length ((Lib.byteCells ol)) :: .obj g4 (.cells #[.slice none 0 0, .slice none 0 0, .slice none 0 0] 37) :: .obj g2 (.cells #[.slice sF fs.length cF_, .slice sI il.length cI, .slice sO ol.length cO] 37) :: .row BY 1 (.slice so61 ((0 + fd19.length)) ca62) ((0 + fd19.length)) (([] ++ Lib.byteCells fd19)) :: .row 88 2 (.slice so67 ((i + 1)) ca68) ((i + 1)) (((cellsF gs) ++ [.string fn18, .slice so61 ((0 + fd19.length)) ca62])) :: .obj g3 (.cells #[.slice so67 ((i + 1)) ca68, .slice s1 il.length c1, .slice s2 ol.length c2] 37) :: D) := hM.perm (List.perm_middle (l₁ := [_, _, _, _, _, _]))
           replace hM : Mg w w69 (.obj g3 (.cells #[.slice so67 ((i + 1)) ca68, .slice s1 il.length c1, .slice s2 ol.length c2] 37) :: .row BY 1 (.slice s1 il.length c1) il.length ((Lib.byteCells il)) :: .row BY 1 (.slice s2 ol.length c2) ol.length ((Lib.byteCells ol)) :: .obj g4 (.cells #[.slice none 0 0, .slice none 0 0, .slice none 0 0] 37) :: .obj g2 (.cells #[.slice sF fs.length cF_, .slice sI il.length cI, .slice sO ol.length cO] 37) :: .row BY 1 (.slice so61 ((0 + fd19.length)) ca62) ((0 + fd19.length)) (([] ++ Lib.byteCells fd19)) :: .row 88 2 (.slice so67 ((i + 1)) ca68) ((i + 1)) (((cellsF gs) ++ [.string fn18, .slice so61 ((0 + fd19.length)) ca62])) :: D) := hM.perm (List.perm_middle (l₁ := [_, _, _, _, _, _]))
           replace hM : Mg w w69 (.row BY 1 (.slice so61 ((0 + fd19.length)) ca62) ((0 + fd19.length)) (([] ++ Lib.byteCells fd19)) :: .obj g3 (.cells #[.slice so67 ((i + 1)) ca68, .slice s1 il.length c1, .slice s2 ol.length c2] 37) :: .row BY 1 (.slice s1 il.length c1) il.length ((Lib.byteCells il)) :: .row BY 1 (.slice s2 ol.length c2) ol.length ((Lib.byteCells ol)) :: .obj g4 (.cells #[.slice none 0 0, .slice none 0 0, .slice none 0 0] 37) :: .obj g2 (.cells #[.slice sF fs.length cF_, .slice sI il.length cI, .slice sO ol.length cO] 37) :: .row 88 2 (.slice so67 ((i + 1)) ca68) ((i + 1)) (((cellsF gs) ++ [.string fn18, .slice so61 ((0 + fd19.length)) ca62])) :: D) := hM.perm (List.perm_middle (l₁ := [_, _, _, _, _]))
           replace hM : Mg w w69 (.row 88 2 (.slice so67 ((i + 1)) ca68) ((i + 1)) (((cellsF gs) ++ [.string fn18, .slice so61 ((0 + fd19.length)) ca62])) :: .row BY 1 (.slice so61 ((0 + fd19.length)) ca62) ((0 + fd19.length)) (([] ++ Lib.byteCells fd19)) :: .obj g3 (.cells #[.slice so67 ((i + 1)) ca68, .slice s1 il.length c1, .slice s2 ol.length c2] 37) :: .row BY 1 (.slice s1 il.length c1) il.length ((Lib.byteCells il)) :: .row BY 1 (.slice s2 ol.length c2) ol.length ((Lib.byteCells ol)) :: .obj g4 (.cells #[.slice none 0 0, .slice none 0 0, .slice none 0 0] 37) :: .obj g2 (.cells #[.slice sF fs.length cF_, .slice sI il.length cI, .slice sO ol.length cO] 37) :: D) := hM.perm (List.perm_middle (l₁ := [_, _, _, _, _, _]))
           exact hJ31 _ _ ⟨so67, ca68, so61, ca62, hA.keep _ ⟨rfl, rfl, rfl, rfl, rfl, rfl, rfl, rfl, rfl, rfl, trivial⟩, hM⟩
         · refine g_lit (e := 88) (sz := 2) (m := 1) (vs := [.string fn18, .slice so61 ((0 + fd19.length)) ca62]) hA hM 17 rfl rfl rfl rfl (does_buildSlice rfl (by kernel_rfl)) rfl rfl (.inl (by decide)) ?_
           intro g70 w71 hM
           refine ⟨(hM.sub (.cons _ (.cons _ (.cons _ (.cons _ (.cons _ (.cons _ (.cons _ (.cons_cons _ (List.nil_sublist _)))))))))), ?_⟩
           intro a hA
           refine any_one (by kernel_rfl) (op_do hA 1 rfl rfl rfl rfl (m_load1 hM Wh_is1_35 rfl 3 rfl rfl) (hM.sub (.cons _ (.cons _ (.cons _ (.cons _ (.cons _ (.cons _ (.cons _ (.cons_cons _ (List.nil_sublist _)))))))))) ?_)
           intro a hA
           refine any_one (by kernel_rfl) (g_append (e := 88) (sz := 2) (k := 2) (q := i) (m := 1) (xs := (cellsF gs)) (news := [.string fn18, .slice so61 ((0 + fd19.length)) ca62]) (L' := fun v72 => (.row 88 2 (.slice (some ⟨g70, 0, none⟩) 1 1) 1 ([.string fn18, .slice so61 ((0 + fd19.length)) ca62]) :: .row BY 1 (.slice so61 ((0 + fd19.length)) ca62) ((0 + fd19.length)) (([] ++ Lib.byteCells fd19)) :: .row 88 2 (v72) ((i + 1)) (((cellsF gs) ++ [.string fn18, .slice so61 ((0 + fd19.length)) ca62])) :: .obj g3 (.cells #[.slice sf i cf, .slice s1 il.length c1, .slice s2 ol.length c2] 37) :: .row BY 1 (.slice s1 il.length c1) il.length ((Lib.byteCells il)) :: .row BY 1 (.slice s2 ol.length c2) ol.length ((Lib.byteCells ol)) :: .obj g4 (.cells #[.slice none 0 0, .slice none 0 0, .slice none 0 0] 37) :: .obj g2 (.cells #[.slice sF fs.length cF_, .slice sI il.length cI, .slice sO ol.length cO] 37) :: D)) hA 18 rfl rfl rfl rfl (m_appendB (z := .agg #[.string ⟨#[]⟩, .slice none 0 0]) (by_ := 40) Try.underlying35 (by kernel_rfl) rfl rfl hM 2 rfl rfl 0 rfl rfl (fun u hu => List.all_eq_true.1 (rfl : ([.string fn18, .slice so61 ((0 + fd19.length)) ca62] : List Value).all Value.oneCell' = true) u hu) (by decide) (by omega) (by omega)) (fun _ => rfl) ?_)
           intro v72 w73 hM
           obtain ⟨so74, ca75, rfl⟩ := owns_sliceE (hM.has 2 rfl)
           refine ⟨(hM.sub (.cons _ (.cons _ (.cons _ (.cons _ (.cons _ (.cons _ (.cons _ (.cons_cons _ (List.nil_sublist _)))))))))), ?_⟩
           intro a hA
           refine any_tk (v := .pointer (some ⟨g3, 0, none⟩)) hA 19 rfl rfl rfl rfl hP (hM.sub (.cons _ (.cons _ (.cons _ (.cons _ (.cons _ (.cons _ (.cons _ (.cons_cons _ (List.nil_sublist _)))))))))) (fun w1 hM => does_field Wh_fld_37_0 rfl rfl) ?_
           intro a hA
           refine any_one (by kernel_rfl) (g_store (us := [.slice so74 ((i + 1)) ca75, .slice s1 il.length c1, .slice s2 ol.length c2]) (L' := (.row 88 2 (.slice (some ⟨g70, 0, none⟩) 1 1) 1 ([.string fn18, .slice so61 ((0 + fd19.length)) ca62]) :: .row BY 1 (.slice so61 ((0 + fd19.length)) ca62) ((0 + fd19.length)) (([] ++ Lib.byteCells fd19)) :: .row 88 2 (.slice so74 ((i + 1)) ca75) ((i + 1)) (((cellsF gs) ++ [.string fn18, .slice so61 ((0 + fd19.length)) ca62])) :: .obj g3 (.cells #[.slice so74 ((i + 1)) ca75, .slice s1 il.length c1, .slice s2 ol.length c2] 37) :: .row BY 1 (.slice s1 il.length c1) il.length ((Lib.byteCells il)) :: .row BY 1 (.slice s2 ol.length c2) ol.length ((Lib.byteCells ol)) :: .obj g4 (.cells #[.slice none 0 0, .slice none 0 0, .slice none 0 0] 37) :: .obj g2 (.cells #[.slice sF fs.length cF_, .slice sI il.length cI, .slice sO ol.length cO] 37) :: D)) hA hM 20 rfl rfl rfl (m_store rfl rfl rfl (by kernel_rfl) hM 3 rfl rfl rfl) 3 rfl rfl rfl ?_)
           intro w76 hM
           refine ⟨(hM.sub (.cons _ (.cons _ (.cons _ (.cons _ (.cons _ (.cons _ (.cons _ (.cons_cons _ (List.nil_sublist _)))))))))), ?_⟩
           refine any_end (by kernel_rfl) ?_
           replace hM : Mg w w76 (.row BY 1 (.slice so61 ((0 + fd19.length)) ca62) ((0 + fd19.length)) (([] ++ Lib.byteCells fd19)) :: .row 88 2 (.slice so74 ((i + 1)) ca75) ((i + 1)) (((cellsF gs) ++ [.string fn18, .slice so61 ((0 + fd19.length)) ca62])) :: .obj g3 (.cells #[.slice so74 ((i + 1)) ca75, .slice s1 il.length c1, .slice s2 ol.length c2] 37) :: .row BY 1 (.slice s1 il.length c1) il.length ((Lib.byteCells il)) :: .row BY 1 (.slice s2 ol.length c2) ol.length ((Lib.byteCells ol)) :: .obj g4 (.cells #[.slice none 0 0, .slice none 0 0, .slice none 0 0] 37) :: .obj g2 (.cells #[.slice sF fs.length cF_, .slice sI il.length cI, .slice sO ol.length cO] 37) :: D) := by
             have h9 := hM.sub (.cons _ (.cons_cons _ (.cons_cons _ (.cons_cons _ (.cons_cons _ (.cons_cons _ (.cons_cons _ (.cons_cons _ (.refl _)))))))))
             exact h9
           replace hM : Mg w w76 (.obj g2 (.cells #[.slice sF fs.length cF_, .slice sI il.length cI, .slice sO ol.length cO] 37) :: .row BY 1 (.slice so61 ((0 + fd19.length)) ca62) ((0 + fd19.length)) (([] ++ Lib.byteCells fd19)) :: .row 88 2 (.slice so74 ((i + 1)) ca75) ((i + 1)) (((cellsF gs) ++ [.string fn18, .slice so61 ((0 + fd19.length)) ca62])) :: .obj g3 (.cells #[.slice so74 ((i + 1)) ca75, .slice s1 il.length c1, .slice s2 ol.length c2] 37) :: .row BY 1 (.slice s1 il.length c1) il.length ((Lib.byteCells il)) :: .row BY 1 (.slice s2 ol.length c2) ol.length ((Lib.byteCells ol)) :: .obj g4 (.cells #[.slice none 0 0, .slice none 0 0, .slice none 0 0] 37) :: D) := hM.perm (List.perm_middle (l₁ := [_, _, _, _, _, _]))
           replace hM : Mg w w76 (.obj g4 (.cells #[.slice none 0 0, .slice none 0 0, .slice none 0 0] 37) :: .obj g2 (.cells #[.slice sF fs.length cF_, .slice sI il.length cI, .slice sO ol.length cO] 37) :: .row BY 1 (.slice so61 ((0 + fd19.length)) ca62) ((0 + fd19.length)) (([] ++ Lib.byteCells fd19)) :: .row 88 2 (.slice so74 ((i + 1)) ca75) ((i + 1)) (((cellsF gs) ++ [.string fn18, .slice so61 ((0 + fd19.length)) ca62])) :: .obj g3 (.cells #[.slice so74 ((i + 1)) ca75, .slice s1 il.length c1, .slice s2 ol.length c2] 37) :: .row BY 1 (.slice s1 il.length c1) il.length ((Lib.byteCells il)) :: .row BY 1 (.slice s2 ol.length c2) ol.length ((Lib.byteCells ol)) :: D) := hM.perm (List.perm_middle (l₁ := [_, _, _, _, _, _]))
           replace hM : Mg w w76 (.row BY 1 (.slice s2 ol.length c2) ol.length ((Lib.byteCells ol)) :: .obj g4 (.cells #[.slice none 0 0, .slice none 0 0, .slice none 0 0] 37) :: .obj g2 (.cells #[.slice sF fs.length cF_, .slice sI il.length cI, .slice sO ol.length cO] 37) :: .row BY 1 (.slice so61 ((0 + fd19.length)) ca62) ((0 + fd19.length)) (([] ++ Lib.byteCells fd19)) :: .row 88 2 (.slice so74 ((i + 1)) ca75) ((i + 1)) (((cellsF gs) ++ [.string fn18, .slice so61 ((0 + fd19.length)) ca62])) :: .obj g3 (.cells #[.slice so74 ((i + 1)) ca75, .slice s1 il.length c1, .slice s2 ol.length c2] 37) :: .row BY 1 (.slice s1 il.length c1) il.length ((Lib.byteCells il)) :: D) := hM.perm (List.perm_middle (l₁ := [_, _, _, _, _, _]))
           replace hM : Mg w w76 (.row BY 1 (.slice s1 il.length c1) il.length ((Lib.byteCells il)) :: .row BY 1 (.slice s2 ol.length c2) ol.length ((Lib.byteCells ol)) :: .obj g4 (.cells #[.slice none 0 0, .slice none 0 0, .slice none 0 0] 37) :: .obj g2 (.cells #[.slice sF fs.length cF_, .slice sI il.length cI, .slice sO ol.length cO] 37) :: .row BY 1 (.slice so61 ((0 + fd19.length)) ca62) ((0 + fd19.length)) (([] ++ Lib.byteCells fd19)) :: .row 88 2 (.slice so74 ((i + 1)) ca75) ((i + 1)) (((cellsF gs) ++ [.string fn18, .slice so61 ((0 + fd19.length)) ca62])) :: .obj g3 (.cells #[.slice so74 ((i + 1)) ca75, .slice s1 il.length c1, .slice s2 ol.length c2] 37) :: D) := hM.perm (List.perm_middle (l₁ := [_, _, _, _, _, _]))
           replace hM : Mg w w76 (.obj g3 (.cells #[.slice so74 ((i + 1)) ca75, .slice s1 il.length c1, .slice s2 ol.length c2] 37) :: .row BY 1 (.slice s1 il.length c1) il.length ((Lib.byteCells il)) :: .row BY 1 (.slice s2 ol.length c2) ol.length ((Lib.byteCells ol)) :: .obj g4 (.cells #[.slice none 0 0, .slice none 0 0, .slice none 0 0] 37) :: .obj g2 (.cells #[.slice sF fs.length cF_, .slice sI il.length cI, .slice sO ol.length cO] 37) :: .row BY 1 (.slice so61 ((0 + fd19.length)) ca62) ((0 + fd19.length)) (([] ++ Lib.byteCells fd19)) :: .row 88 2 (.slice so74 ((i + 1)) ca75) ((i + 1)) (((cellsF gs) ++ [.string fn18, .slice so61 ((0 + fd19.length)) ca62])) :: D) := hM.perm (List.perm_middle (l₁ := [_, _, _, _, _, _]))
           replace hM : Mg w w76 (.row BY 1 (.slice so61 ((0 + fd19.length)) ca62) ((0 + fd19.length)) (([] ++ Lib.byteCells fd19)) :: .obj g3 (.cells #[.slice so74 ((i + 1)) ca75, .slice s1 il.length c1, .slice s2 ol.length c2] 37) :: .row BY 1 (.slice s1 il.length c1) il.length ((Lib.byteCells il)) :: .row BY 1 (.slice s2 ol.length c2) ol.length ((Lib.byteCells ol)) :: .obj g4 (.cells #[.slice none 0 0, .slice none 0 0, .slice none 0 0] 37) :: .obj g2 (.cells #[.slice sF fs.length cF_, .slice sI il.length cI, .slice sO ol.length cO] 37) :: .row 88 2 (.slice so74 ((i + 1)) ca75) ((i + 1)) (((cellsF gs) ++ [.string fn18, .slice so61 ((0 + fd19.length)) ca62])) :: D) := hM.perm (List.perm_middle (l₁ := [_, _, _, _, _]))
           replace hM : Mg w w76 (.row 88 2 (.slice so74 ((i + 1)) ca75) ((i + 1)) (((cellsF gs) ++ [.string fn18, .slice so61 ((0 + fd19.length)) ca62])) :: .row BY 1 (.slice so61 ((0 + fd19.length)) ca62) ((0 + fd19.length)) (([] ++ Lib.byteCells fd19)) :: .obj g3 (.cells #[.slice so74 ((i + 1)) ca75, .slice s1 il.length c1, .slice s2 ol.length c2] 37) :: .row BY 1 (.slice s1 il.length c1) il.length ((Lib.byteCells il)) :: .row BY 1 (.slice s2 ol.length c2) ol.length ((Lib.byteCells ol)) :: .obj g4 (.cells #[.slice none 0 0, .slice none 0 0, .slice none 0 0] 37) :: .obj g2 (.cells #[.slice sF fs.length cF_, .slice sI il.length cI, .slice sO ol.length cO] 37) :: D) := hM.perm (List.perm_middle (l₁ := [_, _, _, _, _, _]))
           exact hJ31 _ _ ⟨so74, ca75, so61, ca62, hA.keep _ ⟨rfl, rfl, rfl, rfl, rfl, rfl, rfl, rfl, rfl, rfl, trivial⟩, hM⟩
   · have hb16' := of_decide_eq_false hb16
     refine seq_do (v := .bool false) hA rfl rfl rfl (does_bin rfl rfl (fun w => (bin_lss w).trans (by rw [hb16]))) ?_
     intro a hA
     refine seq_end ?_
     refine hK15 _ _ ?_
     refine wp_cond_false (hA.ev rfl) ?_
     refine wp_exit ?_
     refine hK9 _ _ ?_
     refine wp_seq_k (fun K77 hK77 => ?_)
     refine wp_region_lit ?_
     refine seq_do hA rfl rfl rfl (m_loadS hM Wh_isS_37 rfl 1 rfl (cs := [.slice sf i cf, .slice s1 il.length c1, .slice s2 ol.length c2]) rfl rfl) ?_
     intro a hA
     refine s_store (us := [.slice sf i cf, .slice s1 il.length c1, .slice s2 ol.length c2]) (L' := (.row 88 2 (.slice sf i cf) i ((cellsF gs)) :: .obj g3 (.cells #[.slice sf i cf, .slice s1 il.length c1, .slice s2 ol.length c2] 37) :: .row BY 1 (.slice s1 il.length c1) il.length ((Lib.byteCells il)) :: .row BY 1 (.slice s2 ol.length c2) ol.length ((Lib.byteCells ol)) :: .obj g4 (.cells #[.slice sf i cf, .slice s1 il.length c1, .slice s2 ol.length c2] 37) :: .obj g2 (.cells #[.slice sF fs.length cF_, .slice sI il.length cI, .slice sO ol.length cO] 37) :: D)) hA hM rfl rfl (m_store rfl rfl rfl (by kernel_rfl) hM 4 rfl rfl rfl) 4 rfl rfl rfl ?_
     intro w78 hM
     refine seq_end ?_
     refine hK77 _ _ ?_
     refine wp_ret ?_
     refine hret _ _ ?_
     refine ends (v := .agg #[.slice sf i cf, .slice s1 il.length c1, .slice s2 ol.length c2]) hA rfl (.cons (res_cellS hM Wh_isS_37 rfl 4 rfl (cs := [.slice sf i cf, .slice s1 il.length c1, .slice s2 ol.length c2]) rfl rfl) .nil) rfl ?_
     replace hM : Mg w w78 (.row 88 2 (.slice sf i cf) i ((cellsF gs)) :: .row BY 1 (.slice s1 il.length c1) il.length ((Lib.byteCells il)) :: .row BY 1 (.slice s2 ol.length c2) ol.length ((Lib.byteCells ol)) :: D) := by
       have h9 := hM.sub (.cons_cons _ (.cons _ (.cons_cons _ (.cons_cons _ (.cons _ (.cons _ (.refl _)))))))
       exact h9
     replace hM : Mg w w78 (.row BY 1 (.slice s2 ol.length c2) ol.length ((Lib.byteCells ol)) :: .row 88 2 (.slice sf i cf) i ((cellsF gs)) :: .row BY 1 (.slice s1 il.length c1) il.length ((Lib.byteCells il)) :: D) := hM.perm (List.perm_middle (l₁ := [_, _]))
     replace hM : Mg w w78 (.row BY 1 (.slice s1 il.length c1) il.length ((Lib.byteCells il)) :: .row BY 1 (.slice s2 ol.length c2) ol.length ((Lib.byteCells ol)) :: .row 88 2 (.slice sf i cf) i ((cellsF gs)) :: D) := hM.perm (List.perm_middle (l₁ := [_, _]))
     replace hM : Mg w w78 (.row 88 2 (.slice sf i cf) i ((cellsF gs)) :: .row BY 1 (.slice s1 il.length c1) il.length ((Lib.byteCells il)) :: .row BY 1 (.slice s2 ol.length c2) ol.length ((Lib.byteCells ol)) :: D) := hM.perm (List.perm_middle (l₁ := [_, _]))
     rw [List.take_of_length_le (by omega)] at hgr
     obtain rfl : i = fs.length := by omega
     exact ⟨_, _, _, rfl, gs, D, hM, hGD, hgr, hnD⟩
 refine wp_draw (S := fun w1 => Mg w w1 (.obj g2 (.cells #[.slice sF fs.length cF_, .slice sI il.length cI, .slice sO ol.length cO] 37) :: [])) (by kernel_rfl) ?_
 replace hM := hM.drew
 refine any_tk (v := .pointer (some ⟨g2, 1, none⟩)) hA 1 rfl rfl rfl rfl hP (hM.sub (.cons _ (.cons_cons _ (List.nil_sublist _)))) (fun w1 hM => does_field Wh_fld_37_1 rfl rfl) ?_
 intro a hA
 refine any_tk hA 2 rfl rfl rfl rfl hP (hM.sub (.cons _ (.cons_cons _ (List.nil_sublist _)))) (fun w1 hM => m_load1 hM Wh_is1_24 rfl 0 rfl rfl) ?_
 intro a hA
 refine any_tk (v := .pointer (some ⟨g2, 2, none⟩)) hA 5 rfl rfl rfl rfl hP (hM.sub (.cons _ (.cons_cons _ (List.nil_sublist _)))) (fun w1 hM => does_field Wh_fld_37_2 rfl rfl) ?_
 intro a hA
 refine any_tk hA 6 rfl rfl rfl rfl hP (hM.sub (.cons _ (.cons_cons _ (List.nil_sublist _)))) (fun w1 hM => m_load1 hM Wh_is1_24 rfl 0 rfl rfl) ?_
 intro a hA
 refine any_many (rs := [0, 4, 9]) (by kernel_rfl) (by simp) ⟨?_, ?_, ?_, trivial⟩
 · refine g_lit (e := BY) (sz := 1) (m := 0) (vs := []) hA hM 0 rfl rfl rfl rfl (does_buildSlice rfl (by kernel_rfl)) rfl rfl (.inr (noBld_cons (by simp) (noBld_cons (by simp) (noBld_quiet quietL_nil)))) ?_
   intro g79 w80 hM
   refine ⟨(hM.sub (.cons _ (.cons _ (.cons_cons _ (List.nil_sublist _))))), ?_⟩
   intro a hA
   refine any_many (rs := [3, 4, 9]) (by kernel_rfl) (by simp) ⟨?_, ?_, ?_, trivial⟩
   · refine g_append (e := BY) (sz := 1) (k := 0) (q := 0) (m := il.length) (xs := []) (news := Lib.byteCells il) (L' := fun v81 => (.row BY 1 (v81) ((0 + il.length)) (([] ++ Lib.byteCells il)) :: .obj g4 (.cells #[.slice none 0 0, .slice none 0 0, .slice none 0 0] 37) :: .obj g2 (.cells #[.slice sF fs.length cF_, .slice sI il.length cI, .slice sO ol.length cO] 37) :: [])) hA 3 rfl rfl rfl rfl (m_appendA Try.underlying24 (by kernel_rfl) hM 0 rfl rfl (show Rb _ _ il from hI.below hM.bel) rfl (by omega)) (fun _ => rfl) ?_
     intro v81 w82 hM
     obtain ⟨so83, ca84, rfl⟩ := owns_sliceE (hM.has 0 rfl)
     refine ⟨(hM.sub (.cons _ (.cons _ (.cons_cons _ (List.nil_sublist _))))), ?_⟩
     intro a hA
     refine any_many (rs := [4, 9]) (by kernel_rfl) (by simp) ⟨?_, ?_, trivial⟩
     · refine g_lit (e := BY) (sz := 1) (m := 0) (vs := []) hA hM 4 rfl rfl rfl rfl (does_buildSlice rfl (by kernel_rfl)) rfl rfl (.inr (noBld_cons (by simp) (noBld_cons (by simp) (noBld_cons (by simp) (noBld_quiet quietL_nil))))) ?_
       intro g85 w86 hM
       refine ⟨(hM.sub (.cons _ (.cons _ (.cons _ (.cons_cons _ (List.nil_sublist _)))))), ?_⟩
       intro a hA
       refine any_many (rs := [7, 9]) (by kernel_rfl) (by simp) ⟨?_, ?_, trivial⟩
       · refine g_append (e := BY) (sz := 1) (k := 0) (q := 0) (m := ol.length) (xs := []) (news := Lib.byteCells ol) (L' := fun v87 => (.row BY 1 (v87) ((0 + ol.length)) (([] ++ Lib.byteCells ol)) :: .row BY 1 (.slice so83 ((0 + il.length)) ca84) ((0 + il.length)) (([] ++ Lib.byteCells il)) :: .obj g4 (.cells #[.slice none 0 0, .slice none 0 0, .slice none 0 0] 37) :: .obj g2 (.cells #[.slice sF fs.length cF_, .slice sI il.length cI, .slice sO ol.length cO] 37) :: [])) hA 7 rfl rfl rfl rfl (m_appendA Try.underlying24 (by kernel_rfl) hM 0 rfl rfl (show Rb _ _ ol from hO.below hM.bel) rfl (by omega)) (fun _ => rfl) ?_
         intro v87 w88 hM
         obtain ⟨so89, ca90, rfl⟩ := owns_sliceE (hM.has 0 rfl)
         refine ⟨(hM.sub (.cons _ (.cons _ (.cons _ (.cons_cons _ (List.nil_sublist _)))))), ?_⟩
         intro a hA
         refine any_tk (v := .agg #[.slice none 0 0, .slice so83 ((0 + il.length)) ca84, .slice so89 ((0 + ol.length)) ca90]) hA 8 rfl rfl rfl rfl hP (hM.sub (.cons _ (.cons _ (.cons _ (.cons_cons _ (List.nil_sublist _)))))) (fun w1 hM => does_build rfl (fun w => by kernel_rfl)) ?_
         intro a hA
         refine any_one (by kernel_rfl) (g_new (vs := [.slice none 0 0, .slice none 0 0, .slice none 0 0]) (t := 37) hA hM 9 rfl rfl rfl rfl (fun g => .pointer (some ⟨g, 0, none⟩)) (does_alloc (z := .agg #[.slice none 0 0, .slice none 0 0, .slice none 0 0]) (by kernel_rfl) rfl) (by decide) ?_)
         intro g91 w92 hM
         refine ⟨(hM.sub (.cons _ (.cons _ (.cons _ (.cons _ (.cons_cons _ (List.nil_sublist _))))))), ?_⟩
         intro a hA
         refine any_one (by kernel_rfl) (g_store (us := [.slice none 0 0, .slice so83 ((0 + il.length)) ca84, .slice so89 ((0 + ol.length)) ca90]) (L' := (.obj g91 (.cells #[.slice none 0 0, .slice so83 ((0 + il.length)) ca84, .slice so89 ((0 + ol.length)) ca90] 37) :: .row BY 1 (.slice so89 ((0 + ol.length)) ca90) ((0 + ol.length)) (([] ++ Lib.byteCells ol)) :: .row BY 1 (.slice so83 ((0 + il.length)) ca84) ((0 + il.length)) (([] ++ Lib.byteCells il)) :: .obj g4 (.cells #[.slice none 0 0, .slice none 0 0, .slice none 0 0] 37) :: .obj g2 (.cells #[.slice sF fs.length cF_, .slice sI il.length cI, .slice sO ol.length cO] 37) :: [])) hA hM 10 rfl rfl rfl (m_store rfl rfl rfl (by kernel_rfl) hM 0 rfl rfl rfl) 0 rfl rfl rfl ?_)
         intro w93 hM
         refine ⟨(hM.sub (.cons _ (.cons _ (.cons _ (.cons _ (.cons_cons _ (List.nil_sublist _))))))), ?_⟩
         refine any_end (by kernel_rfl) ?_
         replace hM : Mg w w93 (.obj g2 (.cells #[.slice sF fs.length cF_, .slice sI il.length cI, .slice sO ol.length cO] 37) :: .obj g91 (.cells #[.slice none 0 0, .slice so83 ((0 + il.length)) ca84, .slice so89 ((0 + ol.length)) ca90] 37) :: .row BY 1 (.slice so89 ((0 + ol.length)) ca90) ((0 + ol.length)) (([] ++ Lib.byteCells ol)) :: .row BY 1 (.slice so83 ((0 + il.length)) ca84) ((0 + il.length)) (([] ++ Lib.byteCells il)) :: .obj g4 (.cells #[.slice none 0 0, .slice none 0 0, .slice none 0 0] 37) :: []) := hM.perm (List.perm_middle (l₁ := [_, _, _, _]))
         replace hM : Mg w w93 (.obj g4 (.cells #[.slice none 0 0, .slice none 0 0, .slice none 0 0] 37) :: .obj g2 (.cells #[.slice sF fs.length cF_, .slice sI il.length cI, .slice sO ol.length cO] 37) :: .obj g91 (.cells #[.slice none 0 0, .slice so83 ((0 + il.length)) ca84, .slice so89 ((0 + ol.length)) ca90] 37) :: .row BY 1 (.slice so89 ((0 + ol.length)) ca90) ((0 + ol.length)) (([] ++ Lib.byteCells ol)) :: .row BY 1 (.slice so83 ((0 + il.length)) ca84) ((0 + il.length)) (([] ++ Lib.byteCells il)) :: []) := hM.perm (List.perm_middle (l₁ := [_, _, _, _]))
         replace hM : Mg w w93 (.row BY 1 (.slice so89 ((0 + ol.length)) ca90) ((0 + ol.length)) (([] ++ Lib.byteCells ol)) :: .obj g4 (.cells #[.slice none 0 0, .slice none 0 0, .slice none 0 0] 37) :: .obj g2 (.cells #[.slice sF fs.length cF_, .slice sI il.length cI, .slice sO ol.length cO] 37) :: .obj g91 (.cells #[.slice none 0 0, .slice so83 ((0 + il.length)) ca84, .slice so89 ((0 + ol.length)) ca90] 37) :: .row BY 1 (.slice so83 ((0 + il.length)) ca84) ((0 + il.length)) (([] ++ Lib.byteCells il)) :: []) := hM.perm (List.perm_middle (l₁ := [_, _, _]))
         replace hM : Mg w w93 (.row BY 1 (.slice so83 ((0 + il.length)) ca84) ((0 + il.length)) (([] ++ Lib.byteCells il)) :: .row BY 1 (.slice so89 ((0 + ol.length)) ca90) ((0 + ol.length)) (([] ++ Lib.byteCells ol)) :: .obj g4 (.cells #[.slice none 0 0, .slice none 0 0, .slice none 0 0] 37) :: .obj g2 (.cells #[.slice sF fs.length cF_, .slice sI il.length cI, .slice sO ol.length cO] 37) :: .obj g91 (.cells #[.slice none 0 0, .slice so83 ((0 + il.length)) ca84, .slice so89 ((0 + ol.length)) ca90] 37) :: []) := hM.perm (List.perm_middle (l₁ := [_, _, _, _]))
         replace hM : Mg w w93 (.obj g91 (.cells #[.slice none 0 0, .slice so83 ((0 + il.length)) ca84, .slice so89 ((0 + ol.length)) ca90] 37) :: .row BY 1 (.slice so83 ((0 + il.length)) ca84) ((0 + il.length)) (([] ++ Lib.byteCells il)) :: .row BY 1 (.slice so89 ((0 + ol.length)) ca90) ((0 + ol.length)) (([] ++ Lib.byteCells ol)) :: .obj g4 (.cells #[.slice none 0 0, .slice none 0 0, .slice none 0 0] 37) :: .obj g2 (.cells #[.slice sF fs.length cF_, .slice sI il.length cI, .slice sO ol.length cO] 37) :: []) := hM.perm (List.perm_middle (l₁ := [_, _, _, _]))
         exact hJ7 _ _ ⟨so83, ca84, so89, ca90, g91, hA.keep _ ⟨rfl, rfl, rfl, rfl, trivial⟩, hM⟩
       · refine g_new (vs := [.slice none 0 0, .slice none 0 0, .slice none 0 0]) (t := 37) hA hM 9 rfl rfl rfl rfl (fun g => .pointer (some ⟨g, 0, none⟩)) (does_alloc (z := .agg #[.slice none 0 0, .slice none 0 0, .slice none 0 0]) (by kernel_rfl) rfl) (by decide) ?_
         intro g94 w95 hM
         refine ⟨(hM.sub (.cons _ (.cons _ (.cons _ (.cons _ (.cons_cons _ (List.nil_sublist _))))))), ?_⟩
         intro a hA
         refine any_one (by kernel_rfl) (g_append (e := BY) (sz := 1) (k := 1) (q := 0) (m := ol.length) (xs := []) (news := Lib.byteCells ol) (L' := fun v96 => (.obj g94 (.cells #[.slice none 0 0, .slice none 0 0, .slice none 0 0] 37) :: .row BY 1 (v96) ((0 + ol.length)) (([] ++ Lib.byteCells ol)) :: .row BY 1 (.slice so83 ((0 + il.length)) ca84) ((0 + il.length)) (([] ++ Lib.byteCells il)) :: .obj g4 (.cells #[.slice none 0 0, .slice none 0 0, .slice none 0 0] 37) :: .obj g2 (.cells #[.slice sF fs.length cF_, .slice sI il.length cI, .slice sO ol.length cO] 37) :: [])) hA 7 rfl rfl rfl rfl (m_appendA Try.underlying24 (by kernel_rfl) hM 1 rfl rfl (show Rb _ _ ol from hO.below hM.bel) rfl (by omega)) (fun _ => rfl) ?_)
         intro v96 w97 hM
         obtain ⟨so98, ca99, rfl⟩ := owns_sliceE (hM.has 1 rfl)
         refine ⟨(hM.sub (.cons _ (.cons _ (.cons _ (.cons _ (.cons_cons _ (List.nil_sublist _))))))), ?_⟩
         intro a hA
         refine any_tk (v := .agg #[.slice none 0 0, .slice so83 ((0 + il.length)) ca84, .slice so98 ((0 + ol.length)) ca99]) hA 8 rfl rfl rfl rfl hP (hM.sub (.cons _ (.cons _ (.cons _ (.cons _ (.cons_cons _ (List.nil_sublist _))))))) (fun w1 hM => does_build rfl (fun w => by kernel_rfl)) ?_
         intro a hA
         refine any_one (by kernel_rfl) (g_store (us := [.slice none 0 0, .slice so83 ((0 + il.length)) ca84, .slice so98 ((0 + ol.length)) ca99]) (L' := (.obj g94 (.cells #[.slice none 0 0, .slice so83 ((0 + il.length)) ca84, .slice so98 ((0 + ol.length)) ca99] 37) :: .row BY 1 (.slice so98 ((0 + ol.length)) ca99) ((0 + ol.length)) (([] ++ Lib.byteCells ol)) :: .row BY 1 (.slice so83 ((0 + il.length)) ca84) ((0 + il.length)) (([] ++ Lib.byteCells il)) :: .obj g4 (.cells #[.slice none 0 0, .slice none 0 0, .slice none 0 0] 37) :: .obj g2 (.cells #[.slice sF fs.length cF_, .slice sI il.length cI, .slice sO ol.length cO] 37) :: [])) hA hM 10 rfl rfl rfl (m_store rfl rfl rfl (by kernel_rfl) hM 0 rfl rfl rfl) 0 rfl rfl rfl ?_)
         intro w100 hM
         refine ⟨(hM.sub (.cons _ (.cons _ (.cons _ (.cons _ (.cons_cons _ (List.nil_sublist _))))))), ?_⟩
         refine any_end (by kernel_rfl) ?_
         replace hM : Mg w w100 (.obj g2 (.cells #[.slice sF fs.length cF_, .slice sI il.length cI, .slice sO ol.length cO] 37) :: .obj g94 (.cells #[.slice none 0 0, .slice so83 ((0 + il.length)) ca84, .slice so98 ((0 + ol.length)) ca99] 37) :: .row BY 1 (.slice so98 ((0 + ol.length)) ca99) ((0 + ol.length)) (([] ++ Lib.byteCells ol)) :: .row BY 1 (.slice so83 ((0 + il.length)) ca84) ((0 + il.length)) (([] ++ Lib.byteCells il)) :: .obj g4 (.cells #[.slice none 0 0, .slice none 0 0, .slice none 0 0] 37) :: []) := hM.perm (List.perm_middle (l₁ := [_, _, _, _]))
         replace hM : Mg w w100 (.obj g4 (.cells #[.slice none 0 0, .slice none 0 0, .slice none 0 0] 37) :: .obj g2 (.cells #[.slice sF fs.length cF_, .slice sI il.length cI, .slice sO ol.length cO] 37) :: .obj g94 (.cells #[.slice none 0 0, .slice so83 ((0 + il.length)) ca84, .slice so98 ((0 + ol.length)) ca99] 37) :: .row BY 1 (.slice so98 ((0 + ol.length)) ca99) ((0 + ol.length)) (([] ++ Lib.byteCells ol)) :: .row BY 1 (.slice so83 ((0 + il.length)) ca84) ((0 + il.length)) (([] ++ Lib.byteCells il)) :: []) := hM.perm (List.perm_middle (l₁ := [_, _, _, _]))
         replace hM : Mg w w100 (.row BY 1 (.slice so98 ((0 + ol.length)) ca99) ((0 + ol.length)) (([] ++ Lib.byteCells ol)) :: .obj g4 (.cells #[.slice none 0 0, .slice none 0 0, .slice none 0 0] 37) :: .obj g2 (.cells #[.slice sF fs.length cF_, .slice sI il.length cI, .slice sO ol.length cO] 37) :: .obj g94 (.cells #[.slice none 0 0, .slice so83 ((0 + il.length)) ca84, .slice so98 ((0 + ol.length)) ca99] 37) :: .row BY 1 (.slice so83 ((0 + il.length)) ca84) ((0 + il.length)) (([] ++ Lib.byteCells il)) :: []) := hM.perm (List.perm_middle (l₁ := [_, _, _]))
         replace hM : Mg w w100 (.row BY 1 (.slice so83 ((0 + il.length)) ca84) ((0 + il.length)) (([] ++ Lib.byteCells il)) :: .row BY 1 (.slice so98 ((0 + ol.length)) ca99) ((0 + ol.length)) (([] ++ Lib.byteCells ol)) :: .obj g4 (.cells #[.slice none 0 0, .slice none 0 0, .slice none 0 0] 37) :: .obj g2 (.cells #[.slice sF fs.length cF_, .slice sI il.length cI, .slice sO ol.length cO] 37) :: .obj g94 (.cells #[.slice none 0 0, .slice so83 ((0 + il.length)) ca84, .slice so98 ((0 + ol.length)) ca99] 37) :: []) := hM.perm (List.perm_middle (l₁ := [_, _, _, _]))
         replace hM : Mg w w100 (.obj g94 (.cells #[.slice none 0 0, .slice so83 ((0 + il.length)) ca84, .slice so98 ((0 + ol.length)) ca99] 37) :: .row BY 1 (.slice so83 ((0 + il.length)) ca84) ((0 + il.length)) (([] ++ Lib.byteCells il)) :: .row BY 1 (.slice so98 ((0 + ol.length)) ca99) ((0 + ol.length)) (([] ++ Lib.byteCells ol)) :: .obj g4 (.cells #[.slice none 0 0, .slice none 0 0, .slice none 0 0] 37) :: .obj g2 (.cells #[.slice sF fs.length cF_, .slice sI il.length cI, .slice sO ol.length cO] 37) :: []) := hM.perm (List.perm_middle (l₁ := [_, _, _, _]))
         exact hJ7 _ _ ⟨so83, ca84, so98, ca99, g94, hA.keep _ ⟨rfl, rfl, rfl, rfl, trivial⟩, hM⟩
     · refine g_new (vs := [.slice none 0 0, .slice none 0 0, .slice none 0 0]) (t := 37) hA hM 9 rfl rfl rfl rfl (fun g => .pointer (some ⟨g, 0, none⟩)) (does_alloc (z := .agg #[.slice none 0 0, .slice none 0 0, .slice none 0 0]) (by kernel_rfl) rfl) (by decide) ?_
       intro g101 w102 hM
       refine ⟨(hM.sub (.cons _ (.cons _ (.cons _ (.cons_cons _ (List.nil_sublist _)))))), ?_⟩
       intro a hA
       refine any_one (by kernel_rfl) (g_lit (e := BY) (sz := 1) (m := 0) (vs := []) hA hM 4 rfl rfl rfl rfl (does_buildSlice rfl (by kernel_rfl)) rfl rfl (.inr (noBld_cons (by simp) (noBld_cons (by simp) (noBld_cons (by simp) (noBld_cons (by simp) (noBld_quiet quietL_nil)))))) ?_)
       intro g103 w104 hM
       refine ⟨(hM.sub (.cons _ (.cons _ (.cons _ (.cons _ (.cons_cons _ (List.nil_sublist _))))))), ?_⟩
       intro a hA
       refine any_one (by kernel_rfl) (g_append (e := BY) (sz := 1) (k := 0) (q := 0) (m := ol.length) (xs := []) (news := Lib.byteCells ol) (L' := fun v105 => (.row BY 1 (v105) ((0 + ol.length)) (([] ++ Lib.byteCells ol)) :: .obj g101 (.cells #[.slice none 0 0, .slice none 0 0, .slice none 0 0] 37) :: .row BY 1 (.slice so83 ((0 + il.length)) ca84) ((0 + il.length)) (([] ++ Lib.byteCells il)) :: .obj g4 (.cells #[.slice none 0 0, .slice none 0 0, .slice none 0 0] 37) :: .obj g2 (.cells #[.slice sF fs.length cF_, .slice sI il.length cI, .slice sO ol.length cO] 37) :: [])) hA 7 rfl rfl rfl rfl (m_appendA Try.underlying24 (by kernel_rfl) hM 0 rfl rfl (show Rb _ _ ol from hO.below hM.bel) rfl (by omega)) (fun _ => rfl) ?_)
       intro v105 w106 hM
       obtain ⟨so107, ca108, rfl⟩ := owns_sliceE (hM.has 0 rfl)
       refine ⟨(hM.sub (.cons _ (.cons _ (.cons _ (.cons _ (.cons_cons _ (List.nil_sublist _))))))), ?_⟩
       intro a hA
       refine any_tk (v := .agg #[.slice none 0 0, .slice so83 ((0 + il.length)) ca84, .slice so107 ((0 + ol.length)) ca108]) hA 8 rfl rfl rfl rfl hP (hM.sub (.cons _ (.cons _ (.cons _ (.cons _ (.cons_cons _ (List.nil_sublist _))))))) (fun w1 hM => does_build rfl (fun w => by kernel_rfl)) ?_
       intro a hA
       refine any_one (by kernel_rfl) (g_store (us := [.slice none 0 0, .slice so83 ((0 + il.length)) ca84, .slice so107 ((0 + ol.length)) ca108]) (L' := (.row BY 1 (.slice so107 ((0 + ol.length)) ca108) ((0 + ol.length)) (([] ++ Lib.byteCells ol)) :: .obj g101 (.cells #[.slice none 0 0, .slice so83 ((0 + il.length)) ca84, .slice so107 ((0 + ol.length)) ca108] 37) :: .row BY 1 (.slice so83 ((0 + il.length)) ca84) ((0 + il.length)) (([] ++ Lib.byteCells il)) :: .obj g4 (.cells #[.slice none 0 0, .slice none 0 0, .slice none 0 0] 37) :: .obj g2 (.cells #[.slice sF fs.length cF_, .slice sI il.length cI, .slice sO ol.length cO] 37) :: [])) hA hM 10 rfl rfl rfl (m_store rfl rfl rfl (by kernel_rfl) hM 1 rfl rfl rfl) 1 rfl rfl rfl ?_)
       intro w109 hM
       refine ⟨(hM.sub (.cons _ (.cons _ (.cons _ (.cons _ (.cons_cons _ (List.nil_sublist _))))))), ?_⟩
       refine any_end (by kernel_rfl) ?_
       replace hM : Mg w w109 (.obj g2 (.cells #[.slice sF fs.length cF_, .slice sI il.length cI, .slice sO ol.length cO] 37) :: .row BY 1 (.slice so107 ((0 + ol.length)) ca108) ((0 + ol.length)) (([] ++ Lib.byteCells ol)) :: .obj g101 (.cells #[.slice none 0 0, .slice so83 ((0 + il.length)) ca84, .slice so107 ((0 + ol.length)) ca108] 37) :: .row BY 1 (.slice so83 ((0 + il.length)) ca84) ((0 + il.length)) (([] ++ Lib.byteCells il)) :: .obj g4 (.cells #[.slice none 0 0, .slice none 0 0, .slice none 0 0] 37) :: []) := hM.perm (List.perm_middle (l₁ := [_, _, _, _]))
       replace hM : Mg w w109 (.obj g4 (.cells #[.slice none 0 0, .slice none 0 0, .slice none 0 0] 37) :: .obj g2 (.cells #[.slice sF fs.length cF_, .slice sI il.length cI, .slice sO ol.length cO] 37) :: .row BY 1 (.slice so107 ((0 + ol.length)) ca108) ((0 + ol.length)) (([] ++ Lib.byteCells ol)) :: .obj g101 (.cells #[.slice none 0 0, .slice so83 ((0 + il.length)) ca84, .slice so107 ((0 + ol.length)) ca108] 37) :: .row BY 1 (.slice so83 ((0 + il.length)) ca84) ((0 + il.length)) (([] ++ Lib.byteCells il)) :: []) := hM.perm (List.perm_middle (l₁ := [_, _, _, _]))
       replace hM : Mg w w109 (.row BY 1 (.slice so107 ((0 + ol.length)) ca108) ((0 + ol.length)) (([] ++ Lib.byteCells ol)) :: .obj g4 (.cells #[.slice none 0 0, .slice none 0 0, .slice none 0 0] 37) :: .obj g2 (.cells #[.slice sF fs.length cF_, .slice sI il.length cI, .slice sO ol.length cO] 37) :: .obj g101 (.cells #[.slice none 0 0, .slice so83 ((0 + il.length)) ca84, .slice so107 ((0 + ol.length)) ca108] 37) :: .row BY 1 (.slice so83 ((0 + il.length)) ca84) ((0 + il.length)) (([] ++ Lib.byteCells il)) :: []) := hM.perm (List.perm_middle (l₁ := [_, _]))
       replace hM : Mg w w109 (.row BY 1 (.slice so83 ((0 + il.length)) ca84) ((0 + il.length)) (([] ++ Lib.byteCells il)) :: .row BY 1 (.slice so107 ((0 + ol.length)) ca108) ((0 + ol.length)) (([] ++ Lib.byteCells ol)) :: .obj g4 (.cells #[.slice none 0 0, .slice none 0 0, .slice none 0 0] 37) :: .obj g2 (.cells #[.slice sF fs.length cF_, .slice sI il.length cI, .slice sO ol.length cO] 37) :: .obj g101 (.cells #[.slice none 0 0, .slice so83 ((0 + il.length)) ca84, .slice so107 ((0 + ol.length)) ca108] 37) :: []) := hM.perm (List.perm_middle (l₁ := [_, _, _, _]))
       replace hM : Mg w w109 (.obj g101 (.cells #[.slice none 0 0, .slice so83 ((0 + il.length)) ca84, .slice so107 ((0 + ol.length)) ca108] 37) :: .row BY 1 (.slice so83 ((0 + il.length)) ca84) ((0 + il.length)) (([] ++ Lib.byteCells il)) :: .row BY 1 (.slice so107 ((0 + ol.length)) ca108) ((0 + ol.length)) (([] ++ Lib.byteCells ol)) :: .obj g4 (.cells #[.slice none 0 0, .slice none 0 0, .slice none 0 0] 37) :: .obj g2 (.cells #[.slice sF fs.length cF_, .slice sI il.length cI, .slice sO ol.length cO] 37) :: []) := hM.perm (List.perm_middle (l₁ := [_, _, _, _]))
       exact hJ7 _ _ ⟨so83, ca84, so107, ca108, g101, hA.keep _ ⟨rfl, rfl, rfl, rfl, trivial⟩, hM⟩
   · refine g_lit (e := BY) (sz := 1) (m := 0) (vs := []) hA hM 4 rfl rfl rfl rfl (does_buildSlice rfl (by kernel_rfl)) rfl rfl (.inr (noBld_cons (by simp) (noBld_cons (by simp) (noBld_cons (by simp) (noBld_quiet quietL_nil))))) ?_
     intro g110 w111 hM
     refine ⟨(hM.sub (.cons _ (.cons _ (.cons _ (.cons_cons _ (List.nil_sublist _)))))), ?_⟩
     intro a hA
     refine any_many (rs := [3, 9]) (by kernel_rfl) (by simp) ⟨?_, ?_, trivial⟩
     · refine g_append (e := BY) (sz := 1) (k := 1) (q := 0) (m := il.length) (xs := []) (news := Lib.byteCells il) (L' := fun v112 => (.row BY 1 (.slice (some ⟨g110, 0, none⟩) 0 0) 0 ([]) :: .row BY 1 (v112) ((0 + il.length)) (([] ++ Lib.byteCells il)) :: .obj g4 (.cells #[.slice none 0 0, .slice none 0 0, .slice none 0 0] 37) :: .obj g2 (.cells #[.slice sF fs.length cF_, .slice sI il.length cI, .slice sO ol.length cO] 37) :: [])) hA 3 rfl rfl rfl rfl (m_appendA Try.underlying24 (by kernel_rfl) hM 1 rfl rfl (show Rb _ _ il from hI.below hM.bel) rfl (by omega)) (fun _ => rfl) ?_
       intro v112 w113 hM
       obtain ⟨so114, ca115, rfl⟩ := owns_sliceE (hM.has 1 rfl)
       refine ⟨(hM.sub (.cons _ (.cons _ (.cons _ (.cons_cons _ (List.nil_sublist _)))))), ?_⟩
       intro a hA
       refine any_many (rs := [7, 9]) (by kernel_rfl) (by simp) ⟨?_, ?_, trivial⟩
       · refine g_append (e := BY) (sz := 1) (k := 0) (q := 0) (m := ol.length) (xs := []) (news := Lib.byteCells ol) (L' := fun v116 => (.row BY 1 (v116) ((0 + ol.length)) (([] ++ Lib.byteCells ol)) :: .row BY 1 (.slice so114 ((0 + il.length)) ca115) ((0 + il.length)) (([] ++ Lib.byteCells il)) :: .obj g4 (.cells #[.slice none 0 0, .slice none 0 0, .slice none 0 0] 37) :: .obj g2 (.cells #[.slice sF fs.length cF_, .slice sI il.length cI, .slice sO ol.length cO] 37) :: [])) hA 7 rfl rfl rfl rfl (m_appendA Try.underlying24 (by kernel_rfl) hM 0 rfl rfl (show Rb _ _ ol from hO.below hM.bel) rfl (by omega)) (fun _ => rfl) ?_
         intro v116 w117 hM
         obtain ⟨so118, ca119, rfl⟩ := owns_sliceE (hM.has 0 rfl)
         refine ⟨(hM.sub (.cons _ (.cons _ (.cons _ (.cons_cons _ (List.nil_sublist _)))))), ?_⟩
         intro a hA
         refine any_tk (v := .agg #[.slice none 0 0, .slice so114 ((0 + il.length)) ca115, .slice so118 ((0 + ol.length)) ca119]) hA 8 rfl rfl rfl rfl hP (hM.sub (.cons _ (.cons _ (.cons _ (.cons_cons _ (List.nil_sublist _)))))) (fun w1 hM => does_build rfl (fun w => by kernel_rfl)) ?_
         intro a hA
         refine any_one (by kernel_rfl) (g_new (vs := [.slice none 0 0, .slice none 0 0, .slice none 0 0]) (t := 37) hA hM 9 rfl rfl rfl rfl (fun g => .pointer (some ⟨g, 0, none⟩)) (does_alloc (z := .agg #[.slice none 0 0, .slice none 0 0, .slice none 0 0]) (by kernel_rfl) rfl) (by decide) ?_)
         intro g120 w121 hM
         refine ⟨(hM.sub (.cons _ (.cons _ (.cons _ (.cons _ (.cons_cons _ (List.nil_sublist _))))))), ?_⟩
         intro a hA
         refine any_one (by kernel_rfl) (g_store (us := [.slice none 0 0, .slice so114 ((0 + il.length)) ca115, .slice so118 ((0 + ol.length)) ca119]) (L' := (.obj g120 (.cells #[.slice none 0 0, .slice so114 ((0 + il.length)) ca115, .slice so118 ((0 + ol.length)) ca119] 37) :: .row BY 1 (.slice so118 ((0 + ol.length)) ca119) ((0 + ol.length)) (([] ++ Lib.byteCells ol)) :: .row BY 1 (.slice so114 ((0 + il.length)) ca115) ((0 + il.length)) (([] ++ Lib.byteCells il)) :: .obj g4 (.cells #[.slice none 0 0, .slice none 0 0, .slice none 0 0] 37) :: .obj g2 (.cells #[.slice sF fs.length cF_, .slice sI il.length cI, .slice sO ol.length cO] 37) :: [])) hA hM 10 rfl rfl rfl (m_store rfl rfl rfl (by kernel_rfl) hM 0 rfl rfl rfl) 0 rfl rfl rfl ?_)
         intro w122 hM
         refine ⟨(hM.sub (.cons _ (.cons _ (.cons _ (.cons _ (.cons_cons _ (List.nil_sublist _))))))), ?_⟩
         refine any_end (by kernel_rfl) ?_
         replace hM : Mg w w122 (.obj g2 (.cells #[.slice sF fs.length cF_, .slice sI il.length cI, .slice sO ol.length cO] 37) :: .obj g120 (.cells #[.slice none 0 0, .slice so114 ((0 + il.length)) ca115, .slice so118 ((0 + ol.length)) ca119] 37) :: .row BY 1 (.slice so118 ((0 + ol.length)) ca119) ((0 + ol.length)) (([] ++ Lib.byteCells ol)) :: .row BY 1 (.slice so114 ((0 + il.length)) ca115) ((0 + il.length)) (([] ++ Lib.byteCells il)) :: .obj g4 (.cells #[.slice none 0 0, .slice none 0 0, .slice none 0 0] 37) :: []) := hM.perm (List.perm_middle (l₁ := [_, _, _, _]))
         replace hM : Mg w w122 (.obj g4 (.cells #[.slice none 0 0, .slice none 0 0, .slice none 0 0] 37) :: .obj g2 (.cells #[.slice sF fs.length cF_, .slice sI il.length cI, .slice sO ol.length cO] 37) :: .obj g120 (.cells #[.slice none 0 0, .slice so114 ((0 + il.length)) ca115, .slice so118 ((0 + ol.length)) ca119] 37) :: .row BY 1 (.slice so118 ((0 + ol.length)) ca119) ((0 + ol.length)) (([] ++ Lib.byteCells ol)) :: .row BY 1 (.slice so114 ((0 + il.length)) ca115) ((0 + il.length)) (([] ++ Lib.byteCells il)) :: []) := hM.perm (List.perm_middle (l₁ := [_, _, _, _]))
         replace hM : Mg w w122 (.row BY 1 (.slice so118 ((0 + ol.length)) ca119) ((0 + ol.length)) (([] ++ Lib.byteCells ol)) :: .obj g4 (.cells #[.slice none 0 0, .slice none 0 0, .slice none 0 0] 37) :: .obj g2 (.cells #[.slice sF fs.length cF_, .slice sI il.length cI, .slice sO ol.length cO] 37) :: .obj g120 (.cells #[.slice none 0 0, .slice so114 ((0 + il.length)) ca115, .slice so118 ((0 + ol.length)) ca119] 37) :: .row BY 1 (.slice so114 ((0 + il.length)) ca115) ((0 + il.length)) (([] ++ Lib.byteCells il)) :: []) := hM.perm (List.perm_middle (l₁ := [_, _, _]))
         replace hM : Mg w w122 (.row BY 1 (.slice so114 ((0 + il.length)) ca115) ((0 + il.length)) (([] ++ Lib.byteCells il)) :: .row BY 1 (.slice so118 ((0 + ol.length)) ca119) ((0 + ol.length)) (([] ++ Lib.byteCells ol)) :: .obj g4 (.cells #[.slice none 0 0, .slice none 0 0, .slice none 0 0] 37) :: .obj g2 (.cells #[.slice sF fs.length cF_, .slice sI il.length cI, .slice sO ol.length cO] 37) :: .obj g120 (.cells #[.slice none 0 0, .slice so114 ((0 + il.length)) ca115, .slice so118 ((0 + ol.length)) ca119] 37) :: []) := hM.perm (List.perm_middle (l₁ := [_, _, _, _]))
         replace hM : Mg w w122 (.obj g120 (.cells #[.slice none 0 0, .slice so114 ((0 + il.length)) ca115, .slice so118 ((0 + ol.length)) ca119] 37) :: .row BY 1 (.slice so114 ((0 + il.length)) ca115) ((0 + il.length)) (([] ++ Lib.byteCells il)) :: .row BY 1 (.slice so118 ((0 + ol.length)) ca119) ((0 + ol.length)) (([] ++ Lib.byteCells ol)) :: .obj g4 (.cells #[.slice none 0 0, .slice none 0 0, .slice none 0 0] 37) :: .obj g2 (.cells #[.slice sF fs.length cF_, .slice sI il.length cI, .slice sO ol.length cO] 37) :: []) := hM.perm (List.perm_middle (l₁ := [_, _, _, _]))
         exact hJ7 _ _ ⟨so114, ca115, so118, ca119, g120, hA.keep _ ⟨rfl, rfl, rfl, rfl, trivial⟩, hM⟩
       · refine g_new (vs := [.slice none 0 0, .slice none 0 0, .slice none 0 0]) (t := 37) hA hM 9 rfl rfl rfl rfl (fun g => .pointer (some ⟨g, 0, none⟩)) (does_alloc (z := .agg #[.slice none 0 0, .slice none 0 0, .slice none 0 0]) (by kernel_rfl) rfl) (by decide) ?_
         intro g123 w124 hM
         refine ⟨(hM.sub (.cons _ (.cons _ (.cons _ (.cons _ (.cons_cons _ (List.nil_sublist _))))))), ?_⟩
         intro a hA
         refine any_one (by kernel_rfl) (g_append (e := BY) (sz := 1) (k := 1) (q := 0) (m := ol.length) (xs := []) (news := Lib.byteCells ol) (L' := fun v125 => (.obj g123 (.cells #[.slice none 0 0, .slice none 0 0, .slice none 0 0] 37) :: .row BY 1 (v125) ((0 + ol.length)) (([] ++ Lib.byteCells ol)) :: .row BY 1 (.slice so114 ((0 + il.length)) ca115) ((0 + il.length)) (([] ++ Lib.byteCells il)) :: .obj g4 (.cells #[.slice none 0 0, .slice none 0 0, .slice none 0 0] 37) :: .obj g2 (.cells #[.slice sF fs.length cF_, .slice sI il.length cI, .slice sO ol.length cO] 37) :: [])) hA 7 rfl rfl rfl rfl (m_appendA Try.underlying24 (by kernel_rfl) hM 1 rfl rfl (show Rb _ _ ol from hO.below hM.bel) rfl (by omega)) (fun _ => rfl) ?_)
         intro v125 w126 hM
         obtain ⟨so127, ca128, rfl⟩ := owns_sliceE (hM.has 1 rfl)
         refine ⟨(hM.sub (.cons _ (.cons _ (.cons _ (.cons _ (.cons_cons _ (List.nil_sublist _))))))), ?_⟩
         intro a hA
         refine any_tk (v := .agg #[.slice none 0 0, .slice so114 ((0 + il.length)) ca115, .slice so127 ((0 + ol.length)) ca128]) hA 8 rfl rfl rfl rfl hP (hM.sub (.cons _ (.cons _ (.cons _ (.cons _ (.cons_cons _ (List.nil_sublist _))))))) (fun w1 hM => does_build rfl (fun w => by kernel_rfl)) ?_
         intro a hA
         refine any_one (by kernel_rfl) (g_store (us := [.slice none 0 0, .slice so114 ((0 + il.length)) ca115, .slice so127 ((0 + ol.length)) ca128]) (L' := (.obj g123 (.cells #[.slice none 0 0, .slice so114 ((0 + il.length)) ca115, .slice so127 ((0 + ol.length)) ca128] 37) :: .row BY 1 (.slice so127 ((0 + ol.length)) ca128) ((0 + ol.length)) (([] ++ Lib.byteCells ol)) :: .row BY 1 (.slice so114 ((0 + il.length)) ca115) ((0 + il.length)) (([] ++ Lib.byteCells il)) :: .obj g4 (.cells #[.slice none 0 0, .slice none 0 0, .slice none 0 0] 37) :: .obj g2 (.cells #[.slice sF fs.length cF_, .slice sI il.length cI, .slice sO ol.length cO] 37) :: [])) hA hM 10 rfl rfl rfl (m_store rfl rfl rfl (by kernel_rfl) hM 0 rfl rfl rfl) 0 rfl rfl rfl ?_)
         intro w129 hM
         refine ⟨(hM.sub (.cons _ (.cons _ (.cons _ (.cons _ (.cons_cons _ (List.nil_sublist _))))))), ?_⟩
         refine any_end (by kernel_rfl) ?_
         replace hM : Mg w w129 (.obj g2 (.cells #[.slice sF fs.length cF_, .slice sI il.length cI, .slice sO ol.length cO] 37) :: .obj g123 (.cells #[.slice none 0 0, .slice so114 ((0 + il.length)) ca115, .slice so127 ((0 + ol.length)) ca128] 37) :: .row BY 1 (.slice so127 ((0 + ol.length)) ca128) ((0 + ol.length)) (([] ++ Lib.byteCells ol)) :: .row BY 1 (.slice so114 ((0 + il.length)) ca115) ((0 + il.length)) (([] ++ Lib.byteCells il)) :: .obj g4 (.cells #[.slice none 0 0, .slice none 0 0, .slice none 0 0] 37) :: []) := hM.perm (List.perm_middle (l₁ := [_, _, _, _]))
         replace hM : Mg w w129 (.obj g4 (.cells #[.slice none 0 0, .slice none 0 0, .slice none 0 0] 37) :: .obj g2 (.cells #[.slice sF fs.length cF_, .slice sI il.length cI, .slice sO ol.length cO] 37) :: .obj g123 (.cells #[.slice none 0 0, .slice so114 ((0 + il.length)) ca115, .slice so127 ((0 + ol.length)) ca128] 37) :: .row BY 1 (.slice so127 ((0 + ol.length)) ca128) ((0 + ol.length)) (([] ++ Lib.byteCells ol)) :: .row BY 1 (.slice so114 ((0 + il.length)) ca115) ((0 + il.length)) (([] ++ Lib.byteCells il)) :: []) := hM.perm (List.perm_middle (l₁ := [_, _, _, _]))
         replace hM : Mg w w129 (.row BY 1 (.slice so127 ((0 + ol.length)) ca128) ((0 + ol.length)) (([] ++ Lib.byteCells ol)) :: .obj g4 (.cells #[.slice none 0 0, .slice none 0 0, .slice none 0 0] 37) :: .obj g2 (.cells #[.slice sF fs.length cF_, .slice sI il.length cI, .slice sO ol.length cO] 37) :: .obj g123 (.cells #[.slice none 0 0, .slice so114 ((0 + il.length)) ca115, .slice so127 ((0 + ol.length)) ca128] 37) :: .row BY 1 (.slice so114 ((0 + il.length)) ca115) ((0 + il.length)) (([] ++ Lib.byteCells il)) :: []) := hM.perm (List.perm_middle (l₁ := [_, _, _]))
         replace hM : Mg w w129 (.row BY 1 (.slice so114 ((0 + il.length)) ca115) ((0 + il.length)) (([] ++ Lib.byteCells il)) :: .row BY 1 (.slice so127 ((0 + ol.length)) ca128) ((0 + ol.length)) (([] ++ Lib.byteCells ol)) :: .obj g4 (.cells #[.slice none 0 0, .slice none 0 0, .slice none 0 0] 37) :: .obj g2 (.cells #[.slice sF fs.length cF_, .slice sI il.length cI, .slice sO ol.length cO] 37) :: .obj g123 (.cells #[.slice none 0 0, .slice so114 ((0 + il.length)) ca115, .slice so127 ((0 + ol.length)) ca128] 37) :: []) := hM.perm (List.perm_middle (l₁ := [_, _, _, _]))
         replace hM : Mg w w129 (.obj g123 (.cells #[.slice none 0 0, .slice so114 ((0 + il.length)) ca115, .slice so127 ((0 + ol.length)) ca128] 37) :: .row BY 1 (.slice so114 ((0 + il.length)) ca115) ((0 + il.length)) (([] ++ Lib.byteCells il)) :: .row BY 1 (.slice so127 ((0 + ol.length)) ca128) ((0 + ol.length)) (([] ++ Lib.byteCells ol)) :: .obj g4 (.cells #[.slice none 0 0, .slice none 0 0, .slice none 0 0] 37) :: .obj g2 (.cells #[.slice sF fs.length cF_, .slice sI il.length cI, .slice sO ol.length cO] 37) :: []) := hM.perm (List.perm_middle (l₁ := [_, _, _, _]))
         exact hJ7 _ _ ⟨so114, ca115, so127, ca128, g123, hA.keep _ ⟨rfl, rfl, rfl, rfl, trivial⟩, hM⟩
     · refine g_new (vs := [.slice none 0 0, .slice none 0 0, .slice none 0 0]) (t := 37) hA hM 9 rfl rfl rfl rfl (fun g => .pointer (some ⟨g, 0, none⟩)) (does_alloc (z := .agg #[.slice none 0 0, .slice none 0 0, .slice none 0 0]) (by kernel_rfl) rfl) (by decide) ?_
       intro g130 w131 hM
       refine ⟨(hM.sub (.cons _ (.cons _ (.cons _ (.cons _ (.cons_cons _ (List.nil_sublist _))))))), ?_⟩
       intro a hA
       refine any_one (by kernel_rfl) (g_append (e := BY) (sz := 1) (k := 2) (q := 0) (m := il.length) (xs := []) (news := Lib.byteCells il) (L' := fun v132 => (.obj g130 (.cells #[.slice none 0 0, .slice none 0 0, .slice none 0 0] 37) :: .row BY 1 (.slice (some ⟨g110, 0, none⟩) 0 0) 0 ([]) :: .row BY 1 (v132) ((0 + il.length)) (([] ++ Lib.byteCells il)) :: .obj g4 (.cells #[.slice none 0 0, .slice none 0 0, .slice none 0 0] 37) :: .obj g2 (.cells #[.slice sF fs.length cF_, .slice sI il.length cI, .slice sO ol.length cO] 37) :: [])) hA 3 rfl rfl rfl rfl (m_appendA Try.underlying24 (by kernel_rfl) hM 2 rfl rfl (show Rb _ _ il from hI.below hM.bel) rfl (by omega)) (fun _ => rfl) ?_)
       intro v132 w133 hM
       obtain ⟨so134, ca135, rfl⟩ := owns_sliceE (hM.has 2 rfl)
       refine ⟨(hM.sub (.cons _ (.cons _ (.cons _ (.cons _ (.cons_cons _ (List.nil_sublist _))))))), ?_⟩
       intro a hA
       refine any_one (by kernel_rfl) (g_append (e := BY) (sz := 1) (k := 1) (q := 0) (m := ol.length) (xs := []) (news := Lib.byteCells ol) (L' := fun v136 => (.obj g130 (.cells #[.slice none 0 0, .slice none 0 0, .slice none 0 0] 37) :: .row BY 1 (v136) ((0 + ol.length)) (([] ++ Lib.byteCells ol)) :: .row BY 1 (.slice so134 ((0 + il.length)) ca135) ((0 + il.length)) (([] ++ Lib.byteCells il)) :: .obj g4 (.cells #[.slice none 0 0, .slice none 0 0, .slice none 0 0] 37) :: .obj g2 (.cells #[.slice sF fs.length cF_, .slice sI il.length cI, .slice sO ol.length cO] 37) :: [])) hA 7 rfl rfl rfl rfl (m_appendA Try.underlying24 (by kernel_rfl) hM 1 rfl rfl (show Rb _ _ ol from hO.below hM.bel) rfl (by omega)) (fun _ => rfl) ?_)
       intro v136 w137 hM
       obtain ⟨so138, ca139, rfl⟩ := owns_sliceE (hM.has 1 rfl)
       refine ⟨(hM.sub (.cons _ (.cons _ (.cons _ (.cons _ (.cons_cons _ (List.nil_sublist _))))))), ?_⟩
       intro a hA
       refine any_tk (v := .agg #[.slice none 0 0, .slice so134 ((0 + il.length)) ca135, .slice so138 ((0 + ol.length)) ca139]) hA 8 rfl rfl rfl rfl hP (hM.sub (.cons _ (.cons _ (.cons _ (.cons _ (.cons_cons _ (List.nil_sublist _))))))) (fun w1 hM => does_build rfl (fun w => by kernel_rfl)) ?_
       intro a hA
       refine any_one (by kernel_rfl) (g_store (us := [.slice none 0 0, .slice so134 ((0 + il.length)) ca135, .slice so138 ((0 + ol.length)) ca139]) (L' := (.obj g130 (.cells #[.slice none 0 0, .slice so134 ((0 + il.length)) ca135, .slice so138 ((0 + ol.length)) ca139] 37) :: .row BY 1 (.slice so138 ((0 + ol.length)) ca139) ((0 + ol.length)) (([] ++ Lib.byteCells ol)) :: .row BY 1 (.slice so134 ((0 + il.length)) ca135) ((0 + il.length)) (([] ++ Lib.byteCells il)) :: .obj g4 (.cells #[.slice none 0 0, .slice none 0 0, .slice none 0 0] 37) :: .obj g2 (.cells #[.slice sF fs.length cF_, .slice sI il.length cI, .slice sO ol.length cO] 37) :: [])) hA hM 10 rfl rfl rfl (m_store rfl rfl rfl (by kernel_rfl) hM 0 rfl rfl rfl) 0 rfl rfl rfl ?_)
       intro w140 hM
       refine ⟨(hM.sub (.cons _ (.cons _ (.cons _ (.cons _ (.cons_cons _ (List.nil_sublist _))))))), ?_⟩
       refine any_end (by kernel_rfl) ?_
       replace hM : Mg w w140 (.obj g2 (.cells #[.slice sF fs.length cF_, .slice sI il.length cI, .slice sO ol.length cO] 37) :: .obj g130 (.cells #[.slice none 0 0, .slice so134 ((0 + il.length)) ca135, .slice so138 ((0 + ol.length)) ca139] 37) :: .row BY 1 (.slice so138 ((0 + ol.length)) ca139) ((0 + ol.length)) (([] ++ Lib.byteCells ol)) :: .row BY 1 (.slice so134 ((0 + il.length)) ca135) ((0 + il.length)) (([] ++ Lib.byteCells il)) :: .obj g4 (.cells #[.slice none 0 0, .slice none 0 0, .slice none 0 0] 37) :: []) := hM.perm (List.perm_middle (l₁ := [_, _, _, _]))
       replace hM : Mg w w140 (.obj g4 (.cells #[.slice none 0 0, .slice none 0 0, .slice none 0 0] 37) :: .obj g2 (.cells #[.slice sF fs.length cF_, .slice sI il.length cI, .slice sO ol.length cO] 37) :: .obj g130 (.cells #[.slice none 0 0, .slice so134 ((0 + il.length)) ca135, .slice so138 ((0 + ol.length)) ca139] 37) :: .row BY 1 (.slice so138 ((0 + ol.length)) ca139) ((0 + ol.length)) (([] ++ Lib.byteCells ol)) :: .row BY 1 (.slice so134 ((0 + il.length)) ca135) ((0 + il.length)) (([] ++ Lib.byteCells il)) :: []) := hM.perm (List.perm_middle (l₁ := [_, _, _, _]))
       replace hM : Mg w w140 (.row BY 1 (.slice so138 ((0 + ol.length)) ca139) ((0 + ol.length)) (([] ++ Lib.byteCells ol)) :: .obj g4 (.cells #[.slice none 0 0, .slice none 0 0, .slice none 0 0] 37) :: .obj g2 (.cells #[.slice sF fs.length cF_, .slice sI il.length cI, .slice sO ol.length cO] 37) :: .obj g130 (.cells #[.slice none 0 0, .slice so134 ((0 + il.length)) ca135, .slice so138 ((0 + ol.length)) ca139] 37) :: .row BY 1 (.slice so134 ((0 + il.length)) ca135) ((0 + il.length)) (([] ++ Lib.byteCells il)) :: []) := hM.perm (List.perm_middle (l₁ := [_, _, _]))
       replace hM : Mg w w140 (.row BY 1 (.slice so134 ((0 + il.length)) ca135) ((0 + il.length)) (([] ++ Lib.byteCells il)) :: .row BY 1 (.slice so138 ((0 + ol.length)) ca139) ((0 + ol.length)) (([] ++ Lib.byteCells ol)) :: .obj g4 (.cells #[.slice none 0 0, .slice none 0 0, .slice none 0 0] 37) :: .obj g2 (.cells #[.slice sF fs.length cF_, .slice sI il.length cI, .slice sO ol.length cO] 37) :: .obj g130 (.cells #[.slice none 0 0, .slice so134 ((0 + il.length)) ca135, .slice so138 ((0 + ol.length)) ca139] 37) :: []) := hM.perm (List.perm_middle (l₁ := [_, _, _, _]))
       replace hM : Mg w w140 (.obj g130 (.cells #[.slice none 0 0, .slice so134 ((0 + il.length)) ca135, .slice so138 ((0 + ol.length)) ca139] 37) :: .row BY 1 (.slice so134 ((0 + il.length)) ca135) ((0 + il.length)) (([] ++ Lib.byteCells il)) :: .row BY 1 (.slice so138 ((0 + ol.length)) ca139) ((0 + ol.length)) (([] ++ Lib.byteCells ol)) :: .obj g4 (.cells #[.slice none 0 0, .slice none 0 0, .slice none 0 0] 37) :: .obj g2 (.cells #[.slice sF fs.length cF_, .slice sI il.length cI, .slice sO ol.length cO] 37) :: []) := hM.perm (List.perm_middle (l₁ := [_, _, _, _]))
       exact hJ7 _ _ ⟨so134, ca135, so138, ca139, g130, hA.keep _ ⟨rfl, rfl, rfl, rfl, trivial⟩, hM⟩
   · refine g_new (vs := [.slice none 0 0, .slice none 0 0, .slice none 0 0]) (t := 37) hA hM 9 rfl rfl rfl rfl (fun g => .pointer (some ⟨g, 0, none⟩)) (does_alloc (z := .agg #[.slice none 0 0, .slice none 0 0, .slice none 0 0]) (by kernel_rfl) rfl) (by decide) ?_
     intro g141 w142 hM
     refine ⟨(hM.sub (.cons _ (.cons _ (.cons _ (.cons_cons _ (List.nil_sublist _)))))), ?_⟩
     intro a hA
     refine any_many (rs := [3, 4]) (by kernel_rfl) (by simp) ⟨?_, ?_, trivial⟩
     · refine g_append (e := BY) (sz := 1) (k := 1) (q := 0) (m := il.length) (xs := []) (news := Lib.byteCells il) (L' := fun v143 => (.obj g141 (.cells #[.slice none 0 0, .slice none 0 0, .slice none 0 0] 37) :: .row BY 1 (v143) ((0 + il.length)) (([] ++ Lib.byteCells il)) :: .obj g4 (.cells #[.slice none 0 0, .slice none 0 0, .slice none 0 0] 37) :: .obj g2 (.cells #[.slice sF fs.length cF_, .slice sI il.length cI, .slice sO ol.length cO] 37) :: [])) hA 3 rfl rfl rfl rfl (m_appendA Try.underlying24 (by kernel_rfl) hM 1 rfl rfl (show Rb _ _ il from hI.below hM.bel) rfl (by omega)) (fun _ => rfl) ?_
       intro v143 w144 hM
       obtain ⟨so145, ca146, rfl⟩ := owns_sliceE (hM.has 1 rfl)
       refine ⟨(hM.sub (.cons _ (.cons _ (.cons _ (.cons_cons _ (List.nil_sublist _)))))), ?_⟩
       intro a hA
       refine any_one (by kernel_rfl) (g_lit (e := BY) (sz := 1) (m := 0) (vs := []) hA hM 4 rfl rfl rfl rfl (does_buildSlice rfl (by kernel_rfl)) rfl rfl (.inr (noBld_cons (by simp) (noBld_cons (by simp) (noBld_cons (by simp) (noBld_cons (by simp) (noBld_quiet quietL_nil)))))) ?_)
       intro g147 w148 hM
       refine ⟨(hM.sub (.cons _ (.cons _ (.cons _ (.cons _ (.cons_cons _ (List.nil_sublist _))))))), ?_⟩
       intro a hA
       refine any_one (by kernel_rfl) (g_append (e := BY) (sz := 1) (k := 0) (q := 0) (m := ol.length) (xs := []) (news := Lib.byteCells ol) (L' := fun v149 => (.row BY 1 (v149) ((0 + ol.length)) (([] ++ Lib.byteCells ol)) :: .obj g141 (.cells #[.slice none 0 0, .slice none 0 0, .slice none 0 0] 37) :: .row BY 1 (.slice so145 ((0 + il.length)) ca146) ((0 + il.length)) (([] ++ Lib.byteCells il)) :: .obj g4 (.cells #[.slice none 0 0, .slice none 0 0, .slice none 0 0] 37) :: .obj g2 (.cells #[.slice sF fs.length cF_, .slice sI il.length cI, .slice sO ol.length cO] 37) :: [])) hA 7 rfl rfl rfl rfl (m_appendA Try.underlying24 (by kernel_rfl) hM 0 rfl rfl (show Rb _ _ ol from hO.below hM.bel) rfl (by omega)) (fun _ => rfl) ?_)
       intro v149 w150 hM
       obtain ⟨so151, ca152, rfl⟩ := owns_sliceE (hM.has 0 rfl)
       refine ⟨(hM.sub (.cons _ (.cons _ (.cons _ (.cons _ (.cons_cons _ (List.nil_sublist _))))))), ?_⟩
       intro a hA
       refine any_tk (v := .agg #[.slice none 0 0, .slice so145 ((0 + il.length)) ca146, .slice so151 ((0 + ol.length)) ca152]) hA 8 rfl rfl rfl rfl hP (hM.sub (.cons _ (.cons _ (.cons _ (.cons _ (.cons_cons _ (List.nil_sublist _))))))) (fun w1 hM => does_build rfl (fun w => by kernel_rfl)) ?_
       intro a hA
       refine any_one (by kernel_rfl) (g_store (us := [.slice none 0 0, .slice so145 ((0 + il.length)) ca146, .slice so151 ((0 + ol.length)) ca152]) (L' := (.row BY 1 (.slice so151 ((0 + ol.length)) ca152) ((0 + ol.length)) (([] ++ Lib.byteCells ol)) :: .obj g141 (.cells #[.slice none 0 0, .slice so145 ((0 + il.length)) ca146, .slice so151 ((0 + ol.length)) ca152] 37) :: .row BY 1 (.slice so145 ((0 + il.length)) ca146) ((0 + il.length)) (([] ++ Lib.byteCells il)) :: .obj g4 (.cells #[.slice none 0 0, .slice none 0 0, .slice none 0 0] 37) :: .obj g2 (.cells #[.slice sF fs.length cF_, .slice sI il.length cI, .slice sO ol.length cO] 37) :: [])) hA hM 10 rfl rfl rfl (m_store rfl rfl rfl (by kernel_rfl) hM 1 rfl rfl rfl) 1 rfl rfl rfl ?_)
       intro w153 hM
       refine ⟨(hM.sub (.cons _ (.cons _ (.cons _ (.cons _ (.cons_cons _ (List.nil_sublist _))))))), ?_⟩
       refine any_end (by kernel_rfl) ?_
       replace hM : Mg w w153 (.obj g2 (.cells #[.slice sF fs.length cF_, .slice sI il.length cI, .slice sO ol.length cO] 37) :: .row BY 1 (.slice so151 ((0 + ol.length)) ca152) ((0 + ol.length)) (([] ++ Lib.byteCells ol)) :: .obj g141 (.cells #[.slice none 0 0, .slice so145 ((0 + il.length)) ca146, .slice so151 ((0 + ol.length)) ca152] 37) :: .row BY 1 (.slice so145 ((0 + il.length)) ca146) ((0 + il.length)) (([] ++ Lib.byteCells il)) :: .obj g4 (.cells #[.slice none 0 0, .slice none 0 0, .slice none 0 0] 37) :: []) := hM.perm (List.perm_middle (l₁ := [_, _, _, _]))
       replace hM : Mg w w153 (.obj g4 (.cells #[.slice none 0 0, .slice none 0 0, .slice none 0 0] 37) :: .obj g2 (.cells #[.slice sF fs.length cF_, .slice sI il.length cI, .slice sO ol.length cO] 37) :: .row BY 1 (.slice so151 ((0 + ol.length)) ca152) ((0 + ol.length)) (([] ++ Lib.byteCells ol)) :: .obj g141 (.cells #[.slice none 0 0, .slice so145 ((0 + il.length)) ca146, .slice so151 ((0 + ol.length)) ca152] 37) :: .row BY 1 (.slice so145 ((0 + il.length)) ca146) ((0 + il.length)) (([] ++ Lib.byteCells il)) :: []) := hM.perm (List.perm_middle (l₁ := [_, _, _, _]))
       replace hM : Mg w w153 (.row BY 1 (.slice so151 ((0 + ol.length)) ca152) ((0 + ol.length)) (([] ++ Lib.byteCells ol)) :: .obj g4 (.cells #[.slice none 0 0, .slice none 0 0, .slice none 0 0] 37) :: .obj g2 (.cells #[.slice sF fs.length cF_, .slice sI il.length cI, .slice sO ol.length cO] 37) :: .obj g141 (.cells #[.slice none 0 0, .slice so145 ((0 + il.length)) ca146, .slice so151 ((0 + ol.length)) ca152] 37) :: .row BY 1 (.slice so145 ((0 + il.length)) ca146) ((0 + il.length)) (([] ++ Lib.byteCells il)) :: []) := hM.perm (List.perm_middle (l₁ := [_, _]))
       replace hM : Mg w w153 (.row BY 1 (.slice so145 ((0 + il.length)) ca146) ((0 + il.length)) (([] ++ Lib.byteCells il)) :: .row BY 1 (.slice so151 ((0 + ol.length)) ca152) ((0 + ol.length)) (([] ++ Lib.byteCells ol)) :: .obj g4 (.cells #[.slice none 0 0, .slice none 0 0, .slice none 0 0] 37) :: .obj g2 (.cells #[.slice sF fs.length cF_, .slice sI il.length cI, .slice sO ol.length cO] 37) :: .obj g141 (.cells #[.slice none 0 0, .slice so145 ((0 + il.length)) ca146, .slice so151 ((0 + ol.length)) ca152] 37) :: []) := hM.perm (List.perm_middle (l₁ := [_, _, _, _]))
       replace hM : Mg w w153 (.obj g141 (.cells #[.slice none 0 0, .slice so145 ((0 + il.length)) ca146, .slice so151 ((0 + ol.length)) ca152] 37) :: .row BY 1 (.slice so145 ((0 + il.length)) ca146) ((0 + il.length)) (([] ++ Lib.byteCells il)) :: .row BY 1 (.slice so151 ((0 + ol.length)) ca152) ((0 + ol.length)) (([] ++ Lib.byteCells ol)) :: .obj g4 (.cells #[.slice none 0 0, .slice none 0 0, .slice none 0 0] 37) :: .obj g2 (.cells #[.slice sF fs.length cF_, .slice sI il.length cI, .slice sO ol.length cO] 37) :: []) := hM.perm (List.perm_middle (l₁ := [_, _, _, _]))
       exact hJ7 _ _ ⟨so145, ca146, so151, ca152, g141, hA.keep _ ⟨rfl, rfl, rfl, rfl, trivial⟩, hM⟩
     · refine g_lit (e := BY) (sz := 1) (m := 0) (vs := []) hA hM 4 rfl rfl rfl rfl (does_buildSlice rfl (by kernel_rfl)) rfl rfl (.inr (noBld_cons (by simp) (noBld_cons (by simp) (noBld_cons (by simp) (noBld_cons (by simp) (noBld_quiet quietL_nil)))))) ?_
       intro g154 w155 hM
       refine ⟨(hM.sub (.cons _ (.cons _ (.cons _ (.cons _ (.cons_cons _ (List.nil_sublist _))))))), ?_⟩
       intro a hA
       refine any_one (by kernel_rfl) (g_append (e := BY) (sz := 1) (k := 2) (q := 0) (m := il.length) (xs := []) (news := Lib.byteCells il) (L' := fun v156 => (.row BY 1 (.slice (some ⟨g154, 0, none⟩) 0 0) 0 ([]) :: .obj g141 (.cells #[.slice none 0 0, .slice none 0 0, .slice none 0 0] 37) :: .row BY 1 (v156) ((0 + il.length)) (([] ++ Lib.byteCells il)) :: .obj g4 (.cells #[.slice none 0 0, .slice none 0 0, .slice none 0 0] 37) :: .obj g2 (.cells #[.slice sF fs.length cF_, .slice sI il.length cI, .slice sO ol.length cO] 37) :: [])) hA 3 rfl rfl rfl rfl (m_appendA Try.underlying24 (by kernel_rfl) hM 2 rfl rfl (show Rb _ _ il from hI.below hM.bel) rfl (by omega)) (fun _ => rfl) ?_)
       intro v156 w157 hM
       obtain ⟨so158, ca159, rfl⟩ := owns_sliceE (hM.has 2 rfl)
       refine ⟨(hM.sub (.cons _ (.cons _ (.cons _ (.cons _ (.cons_cons _ (List.nil_sublist _))))))), ?_⟩
       intro a hA
       refine any_one (by kernel_rfl) (g_append (e := BY) (sz := 1) (k := 0) (q := 0) (m := ol.length) (xs := []) (news := Lib.byteCells ol) (L' := fun v160 => (.row BY 1 (v160) ((0 + ol.length)) (([] ++ Lib.byteCells ol)) :: .obj g141 (.cells #[.slice none 0 0, .slice none 0 0, .slice none 0 0] 37) :: .row BY 1 (.slice so158 ((0 + il.length)) ca159) ((0 + il.length)) (([] ++ Lib.byteCells il)) :: .obj g4 (.cells #[.slice none 0 0, .slice none 0 0, .slice none 0 0] 37) :: .obj g2 (.cells #[.slice sF fs.length cF_, .slice sI il.length cI, .slice sO ol.length cO] 37) :: [])) hA 7 rfl rfl rfl rfl (m_appendA Try.underlying24 (by kernel_rfl) hM 0 rfl rfl (show Rb _ _ ol from hO.below hM.bel) rfl (by omega)) (fun _ => rfl) ?_)
       intro v160 w161 hM
       obtain ⟨so162, ca163, rfl⟩ := owns_sliceE (hM.has 0 rfl)
       refine ⟨(hM.sub (.cons _ (.cons _ (.cons _ (.cons _ (.cons_cons _ (List.nil_sublist _))))))), ?_⟩
       intro a hA
       refine any_tk (v := .agg #[.slice none 0 0, .slice so158 ((0 + il.length)) ca159, .slice so162 ((0 + ol.length)) ca163]) hA 8 rfl rfl rfl rfl hP (hM.sub (.cons _ (.cons _ (.cons _ (.cons _ (.cons_cons _ (List.nil_sublist _))))))) (fun w1 hM => does_build rfl (fun w => by kernel_rfl)) ?_
       intro a hA
       refine any_one (by kernel_rfl) (g_store (us := [.slice none 0 0, .slice so158 ((0 + il.length)) ca159, .slice so162 ((0 + ol.length)) ca163]) (L' := (.row BY 1 (.slice so162 ((0 + ol.length)) ca163) ((0 + ol.length)) (([] ++ Lib.byteCells ol)) :: .obj g141 (.cells #[.slice none 0 0, .slice so158 ((0 + il.length)) ca159, .slice so162 ((0 + ol.length)) ca163] 37) :: .row BY 1 (.slice so158 ((0 + il.length)) ca159) ((0 + il.length)) (([] ++ Lib.byteCells il)) :: .obj g4 (.cells #[.slice none 0 0, .slice none 0 0, .slice none 0 0] 37) :: .obj g2 (.cells #[.slice sF fs.length cF_, .slice sI il.length cI, .slice sO ol.length cO] 37) :: [])) hA hM 10 rfl rfl rfl (m_store rfl rfl rfl (by kernel_rfl) hM 1 rfl rfl rfl) 1 rfl rfl rfl ?_)
       intro w164 hM
       refine ⟨(hM.sub (.cons _ (.cons _ (.cons _ (.cons _ (.cons_cons _ (List.nil_sublist _))))))), ?_⟩
       refine any_end (by kernel_rfl) ?_
       replace hM : Mg w w164 (.obj g2 (.cells #[.slice sF fs.length cF_, .slice sI il.length cI, .slice sO ol.length cO] 37) :: .row BY 1 (.slice so162 ((0 + ol.length)) ca163) ((0 + ol.length)) (([] ++ Lib.byteCells ol)) :: .obj g141 (.cells #[.slice none 0 0, .slice so158 ((0 + il.length)) ca159, .slice so162 ((0 + ol.length)) ca163] 37) :: .row BY 1 (.slice so158 ((0 + il.length)) ca159) ((0 + il.length)) (([] ++ Lib.byteCells il)) :: .obj g4 (.cells #[.slice none 0 0, .slice none 0 0, .slice none 0 0] 37) :: []) := hM.perm (List.perm_middle (l₁ := [_, _, _, _]))
       replace hM : Mg w w164 (.obj g4 (.cells #[.slice none 0 0, .slice none 0 0, .slice none 0 0] 37) :: .obj g2 (.cells #[.slice sF fs.length cF_, .slice sI il.length cI, .slice sO ol.length cO] 37) :: .row BY 1 (.slice so162 ((0 + ol.length)) ca163) ((0 + ol.length)) (([] ++ Lib.byteCells ol)) :: .obj g141 (.cells #[.slice none 0 0, .slice so158 ((0 + il.length)) ca159, .slice so162 ((0 + ol.length)) ca163] 37) :: .row BY 1 (.slice so158 ((0 + il.length)) ca159) ((0 + il.length)) (([] ++ Lib.byteCells il)) :: []) := hM.perm (List.perm_middle (l₁ := [_, _, _, _]))
       replace hM : Mg w w164 (.row BY 1 (.slice so162 ((0 + ol.length)) ca163) ((0 + ol.length)) (([] ++ Lib.byteCells ol)) :: .obj g4 (.cells #[.slice none 0 0, .slice none 0 0, .slice none 0 0] 37) :: .obj g2 (.cells #[.slice sF fs.length cF_, .slice sI il.length cI, .slice sO ol.length cO] 37) :: .obj g141 (.cells #[.slice none 0 0, .slice so158 ((0 + il.length)) ca159, .slice so162 ((0 + ol.length)) ca163] 37) :: .row BY 1 (.slice so158 ((0 + il.length)) ca159) ((0 + il.length)) (([] ++ Lib.byteCells il)) :: []) := hM.perm (List.perm_middle (l₁ := [_, _]))
       replace hM : Mg w w164 (.row BY 1 (.slice so158 ((0 + il.length)) ca159) ((0 + il.length)) (([] ++ Lib.byteCells il)) :: .row BY 1 (.slice so162 ((0 + ol.length)) ca163) ((0 + ol.length)) (([] ++ Lib.byteCells ol)) :: .obj g4 (.cells #[.slice none 0 0, .slice none 0 0, .slice none 0 0] 37) :: .obj g2 (.cells #[.slice sF fs.length cF_, .slice sI il.length cI, .slice sO ol.length cO] 37) :: .obj g141 (.cells #[.slice none 0 0, .slice so158 ((0 + il.length)) ca159, .slice so162 ((0 + ol.length)) ca163] 37) :: []) := hM.perm (List.perm_middle (l₁ := [_, _, _, _]))
       replace hM : Mg w w164 (.obj g141 (.cells #[.slice none 0 0, .slice so158 ((0 + il.length)) ca159, .slice so162 ((0 + ol.length)) ca163] 37) :: .row BY 1 (.slice so158 ((0 + il.length)) ca159) ((0 + il.length)) (([] ++ Lib.byteCells il)) :: .row BY 1 (.slice so162 ((0 + ol.length)) ca163) ((0 + ol.length)) (([] ++ Lib.byteCells ol)) :: .obj g4 (.cells #[.slice none 0 0, .slice none 0 0, .slice none 0 0] 37) :: .obj g2 (.cells #[.slice sF fs.length cF_, .slice sI il.length cI, .slice sO ol.length cO] 37) :: []) := hM.perm (List.perm_middle (l₁ := [_, _, _, _]))
       exact hJ7 _ _ ⟨so158, ca159, so162, ca163, g141, hA.keep _ ⟨rfl, rfl, rfl, rfl, trivial⟩, hM⟩
 · refine g_lit (e := BY) (sz := 1) (m := 0) (vs := []) hA hM 4 rfl rfl rfl rfl (does_buildSlice rfl (by kernel_rfl)) rfl rfl (.inr (noBld_cons (by simp) (noBld_cons (by simp) (noBld_quiet quietL_nil)))) ?_
   intro g165 w166 hM
   refine ⟨(hM.sub (.cons _ (.cons _ (.cons_cons _ (List.nil_sublist _))))), ?_⟩
   intro a hA
   refine any_many (rs := [0, 9]) (by kernel_rfl) (by simp) ⟨?_, ?_, trivial⟩
   · refine g_lit (e := BY) (sz := 1) (m := 0) (vs := []) hA hM 0 rfl rfl rfl rfl (does_buildSlice rfl (by kernel_rfl)) rfl rfl (.inr (noBld_cons (by simp) (noBld_cons (by simp) (noBld_cons (by simp) (noBld_quiet quietL_nil))))) ?_
     intro g167 w168 hM
     refine ⟨(hM.sub (.cons _ (.cons _ (.cons _ (.cons_cons _ (List.nil_sublist _)))))), ?_⟩
     intro a hA
     refine any_many (rs := [3, 9]) (by kernel_rfl) (by simp) ⟨?_, ?_, trivial⟩
     · refine g_append (e := BY) (sz := 1) (k := 0) (q := 0) (m := il.length) (xs := []) (news := Lib.byteCells il) (L' := fun v169 => (.row BY 1 (v169) ((0 + il.length)) (([] ++ Lib.byteCells il)) :: .row BY 1 (.slice (some ⟨g165, 0, none⟩) 0 0) 0 ([]) :: .obj g4 (.cells #[.slice none 0 0, .slice none 0 0, .slice none 0 0] 37) :: .obj g2 (.cells #[.slice sF fs.length cF_, .slice sI il.length cI, .slice sO ol.length cO] 37) :: [])) hA 3 rfl rfl rfl rfl (m_appendA Try.underlying24 (by kernel_rfl) hM 0 rfl rfl (show Rb _ _ il from hI.below hM.bel) rfl (by omega)) (fun _ => rfl) ?_
       intro v169 w170 hM
       obtain ⟨so171, ca172, rfl⟩ := owns_sliceE (hM.has 0 rfl)
       refine ⟨(hM.sub (.cons _ (.cons _ (.cons _ (.cons_cons _ (List.nil_sublist _)))))), ?_⟩
       intro a hA
       refine any_many (rs := [7, 9]) (by kernel_rfl) (by simp) ⟨?_, ?_, trivial⟩
       · refine g_append (e := BY) (sz := 1) (k := 1) (q := 0) (m := ol.length) (xs := []) (news := Lib.byteCells ol) (L' := fun v173 => (.row BY 1 (.slice so171 ((0 + il.length)) ca172) ((0 + il.length)) (([] ++ Lib.byteCells il)) :: .row BY 1 (v173) ((0 + ol.length)) (([] ++ Lib.byteCells ol)) :: .obj g4 (.cells #[.slice none 0 0, .slice none 0 0, .slice none 0 0] 37) :: .obj g2 (.cells #[.slice sF fs.length cF_, .slice sI il.length cI, .slice sO ol.length cO] 37) :: [])) hA 7 rfl rfl rfl rfl (m_appendA Try.underlying24 (by kernel_rfl) hM 1 rfl rfl (show Rb _ _ ol from hO.below hM.bel) rfl (by omega)) (fun _ => rfl) ?_
         intro v173 w174 hM
         obtain ⟨so175, ca176, rfl⟩ := owns_sliceE (hM.has 1 rfl)
         refine ⟨(hM.sub (.cons _ (.cons _ (.cons _ (.cons_cons _ (List.nil_sublist _)))))), ?_⟩
         intro a hA
         refine any_tk (v := .agg #[.slice none 0 0, .slice so171 ((0 + il.length)) ca172, .slice so175 ((0 + ol.length)) ca176]) hA 8 rfl rfl rfl rfl hP (hM.sub (.cons _ (.cons _ (.cons _ (.cons_cons _ (List.nil_sublist _)))))) (fun w1 hM => does_build rfl (fun w => by kernel_rfl)) ?_
         intro a hA
         refine any_one (by kernel_rfl) (g_new (vs := [.slice none 0 0, .slice none 0 0, .slice none 0 0]) (t := 37) hA hM 9 rfl rfl rfl rfl (fun g => .pointer (some ⟨g, 0, none⟩)) (does_alloc (z := .agg #[.slice none 0 0, .slice none 0 0, .slice none 0 0]) (by kernel_rfl) rfl) (by decide) ?_)
         intro g177 w178 hM
         refine ⟨(hM.sub (.cons _ (.cons _ (.cons _ (.cons _ (.cons_cons _ (List.nil_sublist _))))))), ?_⟩
         intro a hA
         refine any_one (by kernel_rfl) (g_store (us := [.slice none 0 0, .slice so171 ((0 + il.length)) ca172, .slice so175 ((0 + ol.length)) ca176]) (L' := (.obj g177 (.cells #[.slice none 0 0, .slice so171 ((0 + il.length)) ca172, .slice so175 ((0 + ol.length)) ca176] 37) :: .row BY 1 (.slice so171 ((0 + il.length)) ca172) ((0 + il.length)) (([] ++ Lib.byteCells il)) :: .row BY 1 (.slice so175 ((0 + ol.length)) ca176) ((0 + ol.length)) (([] ++ Lib.byteCells ol)) :: .obj g4 (.cells #[.slice none 0 0, .slice none 0 0, .slice none 0 0] 37) :: .obj g2 (.cells #[.slice sF fs.length cF_, .slice sI il.length cI, .slice sO ol.length cO] 37) :: [])) hA hM 10 rfl rfl rfl (m_store rfl rfl rfl (by kernel_rfl) hM 0 rfl rfl rfl) 0 rfl rfl rfl ?_)
         intro w179 hM
         refine ⟨(hM.sub (.cons _ (.cons _ (.cons _ (.cons _ (.cons_cons _ (List.nil_sublist _))))))), ?_⟩
         refine any_end (by kernel_rfl) ?_
         replace hM : Mg w w179 (.obj g2 (.cells #[.slice sF fs.length cF_, .slice sI il.length cI, .slice sO ol.length cO] 37) :: .obj g177 (.cells #[.slice none 0 0, .slice so171 ((0 + il.length)) ca172, .slice so175 ((0 + ol.length)) ca176] 37) :: .row BY 1 (.slice so171 ((0 + il.length)) ca172) ((0 + il.length)) (([] ++ Lib.byteCells il)) :: .row BY 1 (.slice so175 ((0 + ol.length)) ca176) ((0 + ol.length)) (([] ++ Lib.byteCells ol)) :: .obj g4 (.cells #[.slice none 0 0, .slice none 0 0, .slice none 0 0] 37) :: []) := hM.perm (List.perm_middle (l₁ := [_, _, _, _]))
         replace hM : Mg w w179 (.obj g4 (.cells #[.slice none 0 0, .slice none 0 0, .slice none 0 0] 37) :: .obj g2 (.cells #[.slice sF fs.length cF_, .slice sI il.length cI, .slice sO ol.length cO] 37) :: .obj g177 (.cells #[.slice none 0 0, .slice so171 ((0 + il.length)) ca172, .slice so175 ((0 + ol.length)) ca176] 37) :: .row BY 1 (.slice so171 ((0 + il.length)) ca172) ((0 + il.length)) (([] ++ Lib.byteCells il)) :: .row BY 1 (.slice so175 ((0 + ol.length)) ca176) ((0 + ol.length)) (([] ++ Lib.byteCells ol)) :: []) := hM.perm (List.perm_middle (l₁ := [_, _, _, _]))
         replace hM : Mg w w179 (.row BY 1 (.slice so175 ((0 + ol.length)) ca176) ((0 + ol.length)) (([] ++ Lib.byteCells ol)) :: .obj g4 (.cells #[.slice none 0 0, .slice none 0 0, .slice none 0 0] 37) :: .obj g2 (.cells #[.slice sF fs.length cF_, .slice sI il.length cI, .slice sO ol.length cO] 37) :: .obj g177 (.cells #[.slice none 0 0, .slice so171 ((0 + il.length)) ca172, .slice so175 ((0 + ol.length)) ca176] 37) :: .row BY 1 (.slice so171 ((0 + il.length)) ca172) ((0 + il.length)) (([] ++ Lib.byteCells il)) :: []) := hM.perm (List.perm_middle (l₁ := [_, _, _, _]))
         replace hM : Mg w w179 (.row BY 1 (.slice so171 ((0 + il.length)) ca172) ((0 + il.length)) (([] ++ Lib.byteCells il)) :: .row BY 1 (.slice so175 ((0 + ol.length)) ca176) ((0 + ol.length)) (([] ++ Lib.byteCells ol)) :: .obj g4 (.cells #[.slice none 0 0, .slice none 0 0, .slice none 0 0] 37) :: .obj g2 (.cells #[.slice sF fs.length cF_, .slice sI il.length cI, .slice sO ol.length cO] 37) :: .obj g177 (.cells #[.slice none 0 0, .slice so171 ((0 + il.length)) ca172, .slice so175 ((0 + ol.length)) ca176] 37) :: []) := hM.perm (List.perm_middle (l₁ := [_, _, _, _]))
         replace hM : Mg w w179 (.obj g177 (.cells #[.slice none 0 0, .slice so171 ((0 + il.length)) ca172, .slice so175 ((0 + ol.length)) ca176] 37) :: .row BY 1 (.slice so171 ((0 + il.length)) ca172) ((0 + il.length)) (([] ++ Lib.byteCells il)) :: .row BY 1 (.slice so175 ((0 + ol.length)) ca176) ((0 + ol.length)) (([] ++ Lib.byteCells ol)) :: .obj g4 (.cells #[.slice none 0 0, .slice none 0 0, .slice none 0 0] 37) :: .obj g2 (.cells #[.slice sF fs.length cF_, .slice sI il.length cI, .slice sO ol.length cO] 37) :: []) := hM.perm (List.perm_middle (l₁ := [_, _, _, _]))
         exact hJ7 _ _ ⟨so171, ca172, so175, ca176, g177, hA.keep _ ⟨rfl, rfl, rfl, rfl, trivial⟩, hM⟩
       · refine g_new (vs := [.slice none 0 0, .slice none 0 0, .slice none 0 0]) (t := 37) hA hM 9 rfl rfl rfl rfl (fun g => .pointer (some ⟨g, 0, none⟩)) (does_alloc (z := .agg #[.slice none 0 0, .slice none 0 0, .slice none 0 0]) (by kernel_rfl) rfl) (by decide) ?_
         intro g180 w181 hM
         refine ⟨(hM.sub (.cons _ (.cons _ (.cons _ (.cons _ (.cons_cons _ (List.nil_sublist _))))))), ?_⟩
         intro a hA
         refine any_one (by kernel_rfl) (g_append (e := BY) (sz := 1) (k := 2) (q := 0) (m := ol.length) (xs := []) (news := Lib.byteCells ol) (L' := fun v182 => (.obj g180 (.cells #[.slice none 0 0, .slice none 0 0, .slice none 0 0] 37) :: .row BY 1 (.slice so171 ((0 + il.length)) ca172) ((0 + il.length)) (([] ++ Lib.byteCells il)) :: .row BY 1 (v182) ((0 + ol.length)) (([] ++ Lib.byteCells ol)) :: .obj g4 (.cells #[.slice none 0 0, .slice none 0 0, .slice none 0 0] 37) :: .obj g2 (.cells #[.slice sF fs.length cF_, .slice sI il.length cI, .slice sO ol.length cO] 37) :: [])) hA 7 rfl rfl rfl rfl (m_appendA Try.underlying24 (by kernel_rfl) hM 2 rfl rfl (show Rb _ _ ol from hO.below hM.bel) rfl (by omega)) (fun _ => rfl) ?_)
         intro v182 w183 hM
         obtain ⟨so184, ca185, rfl⟩ := owns_sliceE (hM.has 2 rfl)
         refine ⟨(hM.sub (.cons _ (.cons _ (.cons _ (.cons _ (.cons_cons _ (List.nil_sublist _))))))), ?_⟩
         intro a hA
         refine any_tk (v := .agg #[.slice none 0 0, .slice so171 ((0 + il.length)) ca172, .slice so184 ((0 + ol.length)) ca185]) hA 8 rfl rfl rfl rfl hP (hM.sub (.cons _ (.cons _ (.cons _ (.cons _ (.cons_cons _ (List.nil_sublist _))))))) (fun w1 hM => does_build rfl (fun w => by kernel_rfl)) ?_
         intro a hA
         refine any_one (by kernel_rfl) (g_store (us := [.slice none 0 0, .slice so171 ((0 + il.length)) ca172, .slice so184 ((0 + ol.length)) ca185]) (L' := (.obj g180 (.cells #[.slice none 0 0, .slice so171 ((0 + il.length)) ca172, .slice so184 ((0 + ol.length)) ca185] 37) :: .row BY 1 (.slice so171 ((0 + il.length)) ca172) ((0 + il.length)) (([] ++ Lib.byteCells il)) :: .row BY 1 (.slice so184 ((0 + ol.length)) ca185) ((0 + ol.length)) (([] ++ Lib.byteCells ol)) :: .obj g4 (.cells #[.slice none 0 0, .slice none 0 0, .slice none 0 0] 37) :: .obj g2 (.cells #[.slice sF fs.length cF_, .slice sI il.length cI, .slice sO ol.length cO] 37) :: [])) hA hM 10 rfl rfl rfl (m_store rfl rfl rfl (by kernel_rfl) hM 0 rfl rfl rfl) 0 rfl rfl rfl ?_)
         intro w186 hM
         refine ⟨(hM.sub (.cons _ (.cons _ (.cons _ (.cons _ (.cons_cons _ (List.nil_sublist _))))))), ?_⟩
         refine any_end (by kernel_rfl) ?_
         replace hM : Mg w w186 (.obj g2 (.cells #[.slice sF fs.length cF_, .slice sI il.length cI, .slice sO ol.length cO] 37) :: .obj g180 (.cells #[.slice none 0 0, .slice so171 ((0 + il.length)) ca172, .slice so184 ((0 + ol.length)) ca185] 37) :: .row BY 1 (.slice so171 ((0 + il.length)) ca172) ((0 + il.length)) (([] ++ Lib.byteCells il)) :: .row BY 1 (.slice so184 ((0 + ol.length)) ca185) ((0 + ol.length)) (([] ++ Lib.byteCells ol)) :: .obj g4 (.cells #[.slice none 0 0, .slice none 0 0, .slice none 0 0] 37) :: []) := hM.perm (List.perm_middle (l₁ := [_, _, _, _]))
         replace hM : Mg w w186 (.obj g4 (.cells #[.slice none 0 0, .slice none 0 0, .slice none 0 0] 37) :: .obj g2 (.cells #[.slice sF fs.length cF_, .slice sI il.length cI, .slice sO ol.length cO] 37) :: .obj g180 (.cells #[.slice none 0 0, .slice so171 ((0 + il.length)) ca172, .slice so184 ((0 + ol.length)) ca185] 37) :: .row BY 1 (.slice so171 ((0 + il.length)) ca172) ((0 + il.length)) (([] ++ Lib.byteCells il)) :: .row BY 1 (.slice so184 ((0 + ol.length)) ca185) ((0 + ol.length)) (([] ++ Lib.byteCells ol)) :: []) := hM.perm (List.perm_middle (l₁ := [_, _, _, _]))
         replace hM : Mg w w186 (.row BY 1 (.slice so184 ((0 + ol.length)) ca185) ((0 + ol.length)) (([] ++ Lib.byteCells ol)) :: .obj g4 (.cells #[.slice none 0 0, .slice none 0 0, .slice none 0 0] 37) :: .obj g2 (.cells #[.slice sF fs.length cF_, .slice sI il.length cI, .slice sO ol.length cO] 37) :: .obj g180 (.cells #[.slice none 0 0, .slice so171 ((0 + il.length)) ca172, .slice so184 ((0 + ol.length)) ca185] 37) :: .row BY 1 (.slice so171 ((0 + il.length)) ca172) ((0 + il.length)) (([] ++ Lib.byteCells il)) :: []) := hM.perm (List.perm_middle (l₁ := [_, _, _, _]))
         replace hM : Mg w w186 (.row BY 1 (.slice so171 ((0 + il.length)) ca172) ((0 + il.length)) (([] ++ Lib.byteCells il)) :: .row BY 1 (.slice so184 ((0 + ol.length)) ca185) ((0 + ol.length)) (([] ++ Lib.byteCells ol)) :: .obj g4 (.cells #[.slice none 0 0, .slice none 0 0, .slice none 0 0] 37) :: .obj g2 (.cells #[.slice sF fs.length cF_, .slice sI il.length cI, .slice sO ol.length cO] 37) :: .obj g180 (.cells #[.slice none 0 0, .slice so171 ((0 + il.length)) ca172, .slice so184 ((0 + ol.length)) ca185] 37) :: []) := hM.perm (List.perm_middle (l₁ := [_, _, _, _]))
         replace hM : Mg w w186 (.obj g180 (.cells #[.slice none 0 0, .slice so171 ((0 + il.length)) ca172, .slice so184 ((0 + ol.length)) ca185] 37) :: .row BY 1 (.slice so171 ((0 + il.length)) ca172) ((0 + il.length)) (([] ++ Lib.byteCells il)) :: .row BY 1 (.slice so184 ((0 + ol.length)) ca185) ((0 + ol.length)) (([] ++ Lib.byteCells ol)) :: .obj g4 (.cells #[.slice none 0 0, .slice none 0 0, .slice none 0 0] 37) :: .obj g2 (.cells #[.slice sF fs.length cF_, .slice sI il.length cI, .slice sO ol.length cO] 37) :: []) := hM.perm (List.perm_middle (l₁ := [_, _, _, _]))
         exact hJ7 _ _ ⟨so171, ca172, so184, ca185, g180, hA.keep _ ⟨rfl, rfl, rfl, rfl, trivial⟩, hM⟩
     · refine g_new (vs := [.slice none 0 0, .slice none 0 0, .slice none 0 0]) (t := 37) hA hM 9 rfl rfl rfl rfl (fun g => .pointer (some ⟨g, 0, none⟩)) (does_alloc (z := .agg #[.slice none 0 0, .slice none 0 0, .slice none 0 0]) (by kernel_rfl) rfl) (by decide) ?_
       intro g187 w188 hM
       refine ⟨(hM.sub (.cons _ (.cons _ (.cons _ (.cons _ (.cons_cons _ (List.nil_sublist _))))))), ?_⟩
       intro a hA
       refine any_one (by kernel_rfl) (g_append (e := BY) (sz := 1) (k := 1) (q := 0) (m := il.length) (xs := []) (news := Lib.byteCells il) (L' := fun v189 => (.obj g187 (.cells #[.slice none 0 0, .slice none 0 0, .slice none 0 0] 37) :: .row BY 1 (v189) ((0 + il.length)) (([] ++ Lib.byteCells il)) :: .row BY 1 (.slice (some ⟨g165, 0, none⟩) 0 0) 0 ([]) :: .obj g4 (.cells #[.slice none 0 0, .slice none 0 0, .slice none 0 0] 37) :: .obj g2 (.cells #[.slice sF fs.length cF_, .slice sI il.length cI, .slice sO ol.length cO] 37) :: [])) hA 3 rfl rfl rfl rfl (m_appendA Try.underlying24 (by kernel_rfl) hM 1 rfl rfl (show Rb _ _ il from hI.below hM.bel) rfl (by omega)) (fun _ => rfl) ?_)
       intro v189 w190 hM
       obtain ⟨so191, ca192, rfl⟩ := owns_sliceE (hM.has 1 rfl)
       refine ⟨(hM.sub (.cons _ (.cons _ (.cons _ (.cons _ (.cons_cons _ (List.nil_sublist _))))))), ?_⟩
       intro a hA
       refine any_one (by kernel_rfl) (g_append (e := BY) (sz := 1) (k := 2) (q := 0) (m := ol.length) (xs := []) (news := Lib.byteCells ol) (L' := fun v193 => (.obj g187 (.cells #[.slice none 0 0, .slice none 0 0, .slice none 0 0] 37) :: .row BY 1 (.slice so191 ((0 + il.length)) ca192) ((0 + il.length)) (([] ++ Lib.byteCells il)) :: .row BY 1 (v193) ((0 + ol.length)) (([] ++ Lib.byteCells ol)) :: .obj g4 (.cells #[.slice none 0 0, .slice none 0 0, .slice none 0 0] 37) :: .obj g2 (.cells #[.slice sF fs.length cF_, .slice sI il.length cI, .slice sO ol.length cO] 37) :: [])) hA 7 rfl rfl rfl rfl (m_appendA Try.underlying24 (by kernel_rfl) hM 2 rfl rfl (show Rb _ _ ol from hO.below hM.bel) rfl (by omega)) (fun _ => rfl) ?_)
       intro v193 w194 hM
       obtain ⟨so195, ca196, rfl⟩ := owns_sliceE (hM.has 2 rfl)
       refine ⟨(hM.sub (.cons _ (.cons _ (.cons _ (.cons _ (.cons_cons _ (List.nil_sublist _))))))), ?_⟩
       intro a hA
       refine any_tk (v := .agg #[.slice none 0 0, .slice so191 ((0 + il.length)) ca192, .slice so195 ((0 + ol.length)) ca196]) hA 8 rfl rfl rfl rfl hP (hM.sub (.cons _ (.cons _ (.cons _ (.cons _ (.cons_cons _ (List.nil_sublist _))))))) (fun w1 hM => does_build rfl (fun w => by kernel_rfl)) ?_
       intro a hA
       refine any_one (by kernel_rfl) (g_store (us := [.slice none 0 0, .slice so191 ((0 + il.length)) ca192, .slice so195 ((0 + ol.length)) ca196]) (L' := (.obj g187 (.cells #[.slice none 0 0, .slice so191 ((0 + il.length)) ca192, .slice so195 ((0 + ol.length)) ca196] 37) :: .row BY 1 (.slice so191 ((0 + il.length)) ca192) ((0 + il.length)) (([] ++ Lib.byteCells il)) :: .row BY 1 (.slice so195 ((0 + ol.length)) ca196) ((0 + ol.length)) (([] ++ Lib.byteCells ol)) :: .obj g4 (.cells #[.slice none 0 0, .slice none 0 0, .slice none 0 0] 37) :: .obj g2 (.cells #[.slice sF fs.length cF_, .slice sI il.length cI, .slice sO ol.length cO] 37) :: [])) hA hM 10 rfl rfl rfl (m_store rfl rfl rfl (by kernel_rfl) hM 0 rfl rfl rfl) 0 rfl rfl rfl ?_)
       intro w197 hM
       refine ⟨(hM.sub (.cons _ (.cons _ (.cons _ (.cons _ (.cons_cons _ (List.nil_sublist _))))))), ?_⟩
       refine any_end (by kernel_rfl) ?_
       replace hM : Mg w w197 (.obj g2 (.cells #[.slice sF fs.length cF_, .slice sI il.length cI, .slice sO ol.length cO] 37) :: .obj g187 (.cells #[.slice none 0 0, .slice so191 ((0 + il.length)) ca192, .slice so195 ((0 + ol.length)) ca196] 37) :: .row BY 1 (.slice so191 ((0 + il.length)) ca192) ((0 + il.length)) (([] ++ Lib.byteCells il)) :: .row BY 1 (.slice so195 ((0 + ol.length)) ca196) ((0 + ol.length)) (([] ++ Lib.byteCells ol)) :: .obj g4 (.cells #[.slice none 0 0, .slice none 0 0, .slice none 0 0] 37) :: []) := hM.perm (List.perm_middle (l₁ := [_, _, _, _]))
       replace hM : Mg w w197 (.obj g4 (.cells #[.slice none 0 0, .slice none 0 0, .slice none 0 0] 37) :: .obj g2 (.cells #[.slice sF fs.length cF_, .slice sI il.length cI, .slice sO ol.length cO] 37) :: .obj g187 (.cells #[.slice none 0 0, .slice so191 ((0 + il.length)) ca192, .slice so195 ((0 + ol.length)) ca196] 37) :: .row BY 1 (.slice so191 ((0 + il.length)) ca192) ((0 + il.length)) (([] ++ Lib.byteCells il)) :: .row BY 1 (.slice so195 ((0 + ol.length)) ca196) ((0 + ol.length)) (([] ++ Lib.byteCells ol)) :: []) := hM.perm (List.perm_middle (l₁ := [_, _, _, _]))
       replace hM : Mg w w197 (.row BY 1 (.slice so195 ((0 + ol.length)) ca196) ((0 + ol.length)) (([] ++ Lib.byteCells ol)) :: .obj g4 (.cells #[.slice none 0 0, .slice none 0 0, .slice none 0 0] 37) :: .obj g2 (.cells #[.slice sF fs.length cF_, .slice sI il.length cI, .slice sO ol.length cO] 37) :: .obj g187 (.cells #[.slice none 0 0, .slice so191 ((0 + il.length)) ca192, .slice so195 ((0 + ol.length)) ca196] 37) :: .row BY 1 (.slice so191 ((0 + il.length)) ca192) ((0 + il.length)) (([] ++ Lib.byteCells il)) :: []) := hM.perm (List.perm_middle (l₁ := [_, _, _, _]))
       replace hM : Mg w w197 (.row BY 1 (.slice so191 ((0 + il.length)) ca192) ((0 + il.length)) (([] ++ Lib.byteCells il)) :: .row BY 1 (.slice so195 ((0 + ol.length)) ca196) ((0 + ol.length)) (([] ++ Lib.byteCells ol)) :: .obj g4 (.cells #[.slice none 0 0, .slice none 0 0, .slice none 0 0] 37) :: .obj g2 (.cells #[.slice sF fs.length cF_, .slice sI il.length cI, .slice sO ol.length cO] 37) :: .obj g187 (.cells #[.slice none 0 0, .slice so191 ((0 + il.length)) ca192, .slice so195 ((0 + ol.length)) ca196] 37) :: []) := hM.perm (List.perm_middle (l₁ := [_, _, _, _]))
       replace hM : Mg w w197 (.obj g187 (.cells #[.slice none 0 0, .slice so191 ((0 + il.length)) ca192, .slice so195 ((0 + ol.length)) ca196] 37) :: .row BY 1 (.slice so191 ((0 + il.length)) ca192) ((0 + il.length)) (([] ++ Lib.byteCells il)) :: .row BY 1 (.slice so195 ((0 + ol.length)) ca196) ((0 + ol.length)) (([] ++ Lib.byteCells ol)) :: .obj g4 (.cells #[.slice none 0 0, .slice none 0 0, .slice none 0 0] 37) :: .obj g2 (.cells #[.slice sF fs.length cF_, .slice sI il.length cI, .slice sO ol.length cO] 37) :: []) := hM.perm (List.perm_middle (l₁ := [_, _, _, _]))
       exact hJ7 _ _ ⟨so191, ca192, so195, ca196, g187, hA.keep _ ⟨rfl, rfl, rfl, rfl, trivial⟩, hM⟩
   · refine g_new (vs := [.slice none 0 0, .slice none 0 0, .slice none 0 0]) (t := 37) hA hM 9 rfl rfl rfl rfl (fun g => .pointer (some ⟨g, 0, none⟩)) (does_alloc (z := .agg #[.slice none 0 0, .slice none 0 0, .slice none 0 0]) (by kernel_rfl) rfl) (by decide) ?_
     intro g198 w199 hM
     refine ⟨(hM.sub (.cons _ (.cons _ (.cons _ (.cons_cons _ (List.nil_sublist _)))))), ?_⟩
     intro a hA
     refine any_one (by kernel_rfl) (g_lit (e := BY) (sz := 1) (m := 0) (vs := []) hA hM 0 rfl rfl rfl rfl (does_buildSlice rfl (by kernel_rfl)) rfl rfl (.inr (noBld_cons (by simp) (noBld_cons (by simp) (noBld_cons (by simp) (noBld_cons (by simp) (noBld_quiet quietL_nil)))))) ?_)
     intro g200 w201 hM
     refine ⟨(hM.sub (.cons _ (.cons _ (.cons _ (.cons _ (.cons_cons _ (List.nil_sublist _))))))), ?_⟩
     intro a hA
     refine any_one (by kernel_rfl) (g_append (e := BY) (sz := 1) (k := 0) (q := 0) (m := il.length) (xs := []) (news := Lib.byteCells il) (L' := fun v202 => (.row BY 1 (v202) ((0 + il.length)) (([] ++ Lib.byteCells il)) :: .obj g198 (.cells #[.slice none 0 0, .slice none 0 0, .slice none 0 0] 37) :: .row BY 1 (.slice (some ⟨g165, 0, none⟩) 0 0) 0 ([]) :: .obj g4 (.cells #[.slice none 0 0, .slice none 0 0, .slice none 0 0] 37) :: .obj g2 (.cells #[.slice sF fs.length cF_, .slice sI il.length cI, .slice sO ol.length cO] 37) :: [])) hA 3 rfl rfl rfl rfl (m_appendA Try.underlying24 (by kernel_rfl) hM 0 rfl rfl (show Rb _ _ il from hI.below hM.bel) rfl (by omega)) (fun _ => rfl) ?_)
     intro v202 w203 hM
     obtain ⟨so204, ca205, rfl⟩ := owns_sliceE (hM.has 0 rfl)
     refine ⟨(hM.sub (.cons _ (.cons _ (.cons _ (.cons _ (.cons_cons _ (List.nil_sublist _))))))), ?_⟩
     intro a hA
     refine any_one (by kernel_rfl) (g_append (e := BY) (sz := 1) (k := 2) (q := 0) (m := ol.length) (xs := []) (news := Lib.byteCells ol) (L' := fun v206 => (.row BY 1 (.slice so204 ((0 + il.length)) ca205) ((0 + il.length)) (([] ++ Lib.byteCells il)) :: .obj g198 (.cells #[.slice none 0 0, .slice none 0 0, .slice none 0 0] 37) :: .row BY 1 (v206) ((0 + ol.length)) (([] ++ Lib.byteCells ol)) :: .obj g4 (.cells #[.slice none 0 0, .slice none 0 0, .slice none 0 0] 37) :: .obj g2 (.cells #[.slice sF fs.length cF_, .slice sI il.length cI, .slice sO ol.length cO] 37) :: [])) hA 7 rfl rfl rfl rfl (m_appendA Try.underlying24 (by kernel_rfl) hM 2 rfl rfl (show Rb _ _ ol from hO.below hM.bel) rfl (by omega)) (fun _ => rfl) ?_)
     intro v206 w207 hM
     obtain ⟨so208, ca209, rfl⟩ := owns_sliceE (hM.has 2 rfl)
     refine ⟨(hM.sub (.cons _ (.cons _ (.cons _ (.cons _ (.cons_cons _ (List.nil_sublist _))))))), ?_⟩
     intro a hA
     refine any_tk (v := .agg #[.slice none 0 0, .slice so204 ((0 + il.length)) ca205, .slice so208 ((0 + ol.length)) ca209]) hA 8 rfl rfl rfl rfl hP (hM.sub (.cons _ (.cons _ (.cons _ (.cons _ (.cons_cons _ (List.nil_sublist _))))))) (fun w1 hM => does_build rfl (fun w => by kernel_rfl)) ?_
     intro a hA
     refine any_one (by kernel_rfl) (g_store (us := [.slice none 0 0, .slice so204 ((0 + il.length)) ca205, .slice so208 ((0 + ol.length)) ca209]) (L' := (.row BY 1 (.slice so204 ((0 + il.length)) ca205) ((0 + il.length)) (([] ++ Lib.byteCells il)) :: .obj g198 (.cells #[.slice none 0 0, .slice so204 ((0 + il.length)) ca205, .slice so208 ((0 + ol.length)) ca209] 37) :: .row BY 1 (.slice so208 ((0 + ol.length)) ca209) ((0 + ol.length)) (([] ++ Lib.byteCells ol)) :: .obj g4 (.cells #[.slice none 0 0, .slice none 0 0, .slice none 0 0] 37) :: .obj g2 (.cells #[.slice sF fs.length cF_, .slice sI il.length cI, .slice sO ol.length cO] 37) :: [])) hA hM 10 rfl rfl rfl (m_store rfl rfl rfl (by kernel_rfl) hM 1 rfl rfl rfl) 1 rfl rfl rfl ?_)
     intro w210 hM
     refine ⟨(hM.sub (.cons _ (.cons _ (.cons _ (.cons _ (.cons_cons _ (List.nil_sublist _))))))), ?_⟩
     refine any_end (by kernel_rfl) ?_
     replace hM : Mg w w210 (.obj g2 (.cells #[.slice sF fs.length cF_, .slice sI il.length cI, .slice sO ol.length cO] 37) :: .row BY 1 (.slice so204 ((0 + il.length)) ca205) ((0 + il.length)) (([] ++ Lib.byteCells il)) :: .obj g198 (.cells #[.slice none 0 0, .slice so204 ((0 + il.length)) ca205, .slice so208 ((0 + ol.length)) ca209] 37) :: .row BY 1 (.slice so208 ((0 + ol.length)) ca209) ((0 + ol.length)) (([] ++ Lib.byteCells ol)) :: .obj g4 (.cells #[.slice none 0 0, .slice none 0 0, .slice none 0 0] 37) :: []) := hM.perm (List.perm_middle (l₁ := [_, _, _, _]))
     replace hM : Mg w w210 (.obj g4 (.cells #[.slice none 0 0, .slice none 0 0, .slice none 0 0] 37) :: .obj g2 (.cells #[.slice sF fs.length cF_, .slice sI il.length cI, .slice sO ol.length cO] 37) :: .row BY 1 (.slice so204 ((0 + il.length)) ca205) ((0 + il.length)) (([] ++ Lib.byteCells il)) :: .obj g198 (.cells #[.slice none 0 0, .slice so204 ((0 + il.length)) ca205, .slice so208 ((0 + ol.length)) ca209] 37) :: .row BY 1 (.slice so208 ((0 + ol.length)) ca209) ((0 + ol.length)) (([] ++ Lib.byteCells ol)) :: []) := hM.perm (List.perm_middle (l₁ := [_, _, _, _]))
     replace hM : Mg w w210 (.row BY 1 (.slice so208 ((0 + ol.length)) ca209) ((0 + ol.length)) (([] ++ Lib.byteCells ol)) :: .obj g4 (.cells #[.slice none 0 0, .slice none 0 0, .slice none 0 0] 37) :: .obj g2 (.cells #[.slice sF fs.length cF_, .slice sI il.length cI, .slice sO ol.length cO] 37) :: .row BY 1 (.slice so204 ((0 + il.length)) ca205) ((0 + il.length)) (([] ++ Lib.byteCells il)) :: .obj g198 (.cells #[.slice none 0 0, .slice so204 ((0 + il.length)) ca205, .slice so208 ((0 + ol.length)) ca209] 37) :: []) := hM.perm (List.perm_middle (l₁ := [_, _, _, _]))
     replace hM : Mg w w210 (.row BY 1 (.slice so204 ((0 + il.length)) ca205) ((0 + il.length)) (([] ++ Lib.byteCells il)) :: .row BY 1 (.slice so208 ((0 + ol.length)) ca209) ((0 + ol.length)) (([] ++ Lib.byteCells ol)) :: .obj g4 (.cells #[.slice none 0 0, .slice none 0 0, .slice none 0 0] 37) :: .obj g2 (.cells #[.slice sF fs.length cF_, .slice sI il.length cI, .slice sO ol.length cO] 37) :: .obj g198 (.cells #[.slice none 0 0, .slice so204 ((0 + il.length)) ca205, .slice so208 ((0 + ol.length)) ca209] 37) :: []) := hM.perm (List.perm_middle (l₁ := [_, _, _]))
     replace hM : Mg w w210 (.obj g198 (.cells #[.slice none 0 0, .slice so204 ((0 + il.length)) ca205, .slice so208 ((0 + ol.length)) ca209] 37) :: .row BY 1 (.slice so204 ((0 + il.length)) ca205) ((0 + il.length)) (([] ++ Lib.byteCells il)) :: .row BY 1 (.slice so208 ((0 + ol.length)) ca209) ((0 + ol.length)) (([] ++ Lib.byteCells ol)) :: .obj g4 (.cells #[.slice none 0 0, .slice none 0 0, .slice none 0 0] 37) :: .obj g2 (.cells #[.slice sF fs.length cF_, .slice sI il.length cI, .slice sO ol.length cO] 37) :: []) := hM.perm (List.perm_middle (l₁ := [_, _, _, _]))
     exact hJ7 _ _ ⟨so204, ca205, so208, ca209, g198, hA.keep _ ⟨rfl, rfl, rfl, rfl, trivial⟩, hM⟩
 · refine g_new (vs := [.slice none 0 0, .slice none 0 0, .slice none 0 0]) (t := 37) hA hM 9 rfl rfl rfl rfl (fun g => .pointer (some ⟨g, 0, none⟩)) (does_alloc (z := .agg #[.slice none 0 0, .slice none 0 0, .slice none 0 0]) (by kernel_rfl) rfl) (by decide) ?_
   intro g211 w212 hM
   refine ⟨(hM.sub (.cons _ (.cons _ (.cons_cons _ (List.nil_sublist _))))), ?_⟩
   intro a hA
   refine any_many (rs := [0, 4]) (by kernel_rfl) (by simp) ⟨?_, ?_, trivial⟩
   · refine g_lit (e := BY) (sz := 1) (m := 0) (vs := []) hA hM 0 rfl rfl rfl rfl (does_buildSlice rfl (by kernel_rfl)) rfl rfl (.inr (noBld_cons (by simp) (noBld_cons (by simp) (noBld_cons (by simp) (noBld_quiet quietL_nil))))) ?_
     intro g213 w214 hM
     refine ⟨(hM.sub (.cons _ (.cons _ (.cons _ (.cons_cons _ (List.nil_sublist _)))))), ?_⟩
     intro a hA
     refine any_many (rs := [3, 4]) (by kernel_rfl) (by simp) ⟨?_, ?_, trivial⟩
     · refine g_append (e := BY) (sz := 1) (k := 0) (q := 0) (m := il.length) (xs := []) (news := Lib.byteCells il) (L' := fun v215 => (.row BY 1 (v215) ((0 + il.length)) (([] ++ Lib.byteCells il)) :: .obj g211 (.cells #[.slice none 0 0, .slice none 0 0, .slice none 0 0] 37) :: .obj g4 (.cells #[.slice none 0 0, .slice none 0 0, .slice none 0 0] 37) :: .obj g2 (.cells #[.slice sF fs.length cF_, .slice sI il.length cI, .slice sO ol.length cO] 37) :: [])) hA 3 rfl rfl rfl rfl (m_appendA Try.underlying24 (by kernel_rfl) hM 0 rfl rfl (show Rb _ _ il from hI.below hM.bel) rfl (by omega)) (fun _ => rfl) ?_
       intro v215 w216 hM
       obtain ⟨so217, ca218, rfl⟩ := owns_sliceE (hM.has 0 rfl)
       refine ⟨(hM.sub (.cons _ (.cons _ (.cons _ (.cons_cons _ (List.nil_sublist _)))))), ?_⟩
       intro a hA
       refine any_one (by kernel_rfl) (g_lit (e := BY) (sz := 1) (m := 0) (vs := []) hA hM 4 rfl rfl rfl rfl (does_buildSlice rfl (by kernel_rfl)) rfl rfl (.inr (noBld_cons (by simp) (noBld_cons (by simp) (noBld_cons (by simp) (noBld_cons (by simp) (noBld_quiet quietL_nil)))))) ?_)
       intro g219 w220 hM
       refine ⟨(hM.sub (.cons _ (.cons _ (.cons _ (.cons _ (.cons_cons _ (List.nil_sublist _))))))), ?_⟩
       intro a hA
       refine any_one (by kernel_rfl) (g_append (e := BY) (sz := 1) (k := 0) (q := 0) (m := ol.length) (xs := []) (news := Lib.byteCells ol) (L' := fun v221 => (.row BY 1 (v221) ((0 + ol.length)) (([] ++ Lib.byteCells ol)) :: .row BY 1 (.slice so217 ((0 + il.length)) ca218) ((0 + il.length)) (([] ++ Lib.byteCells il)) :: .obj g211 (.cells #[.slice none 0 0, .slice none 0 0, .slice none 0 0] 37) :: .obj g4 (.cells #[.slice none 0 0, .slice none 0 0, .slice none 0 0] 37) :: .obj g2 (.cells #[.slice sF fs.length cF_, .slice sI il.length cI, .slice sO ol.length cO] 37) :: [])) hA 7 rfl rfl rfl rfl (m_appendA Try.underlying24 (by kernel_rfl) hM 0 rfl rfl (show Rb _ _ ol from hO.below hM.bel) rfl (by omega)) (fun _ => rfl) ?_)
       intro v221 w222 hM
       obtain ⟨so223, ca224, rfl⟩ := owns_sliceE (hM.has 0 rfl)
       refine ⟨(hM.sub (.cons _ (.cons _ (.cons _ (.cons _ (.cons_cons _ (List.nil_sublist _))))))), ?_⟩
       intro a hA
       refine any_tk (v := .agg #[.slice none 0 0, .slice so217 ((0 + il.length)) ca218, .slice so223 ((0 + ol.length)) ca224]) hA 8 rfl rfl rfl rfl hP (hM.sub (.cons _ (.cons _ (.cons _ (.cons _ (.cons_cons _ (List.nil_sublist _))))))) (fun w1 hM => does_build rfl (fun w => by kernel_rfl)) ?_
       intro a hA
       refine any_one (by kernel_rfl) (g_store (us := [.slice none 0 0, .slice so217 ((0 + il.length)) ca218, .slice so223 ((0 + ol.length)) ca224]) (L' := (.row BY 1 (.slice so223 ((0 + ol.length)) ca224) ((0 + ol.length)) (([] ++ Lib.byteCells ol)) :: .row BY 1 (.slice so217 ((0 + il.length)) ca218) ((0 + il.length)) (([] ++ Lib.byteCells il)) :: .obj g211 (.cells #[.slice none 0 0, .slice so217 ((0 + il.length)) ca218, .slice so223 ((0 + ol.length)) ca224] 37) :: .obj g4 (.cells #[.slice none 0 0, .slice none 0 0, .slice none 0 0] 37) :: .obj g2 (.cells #[.slice sF fs.length cF_, .slice sI il.length cI, .slice sO ol.length cO] 37) :: [])) hA hM 10 rfl rfl rfl (m_store rfl rfl rfl (by kernel_rfl) hM 2 rfl rfl rfl) 2 rfl rfl rfl ?_)
       intro w225 hM
       refine ⟨(hM.sub (.cons _ (.cons _ (.cons _ (.cons _ (.cons_cons _ (List.nil_sublist _))))))), ?_⟩
       refine any_end (by kernel_rfl) ?_
       replace hM : Mg w w225 (.obj g2 (.cells #[.slice sF fs.length cF_, .slice sI il.length cI, .slice sO ol.length cO] 37) :: .row BY 1 (.slice so223 ((0 + ol.length)) ca224) ((0 + ol.length)) (([] ++ Lib.byteCells ol)) :: .row BY 1 (.slice so217 ((0 + il.length)) ca218) ((0 + il.length)) (([] ++ Lib.byteCells il)) :: .obj g211 (.cells #[.slice none 0 0, .slice so217 ((0 + il.length)) ca218, .slice so223 ((0 + ol.length)) ca224] 37) :: .obj g4 (.cells #[.slice none 0 0, .slice none 0 0, .slice none 0 0] 37) :: []) := hM.perm (List.perm_middle (l₁ := [_, _, _, _]))
       replace hM : Mg w w225 (.obj g4 (.cells #[.slice none 0 0, .slice none 0 0, .slice none 0 0] 37) :: .obj g2 (.cells #[.slice sF fs.length cF_, .slice sI il.length cI, .slice sO ol.length cO] 37) :: .row BY 1 (.slice so223 ((0 + ol.length)) ca224) ((0 + ol.length)) (([] ++ Lib.byteCells ol)) :: .row BY 1 (.slice so217 ((0 + il.length)) ca218) ((0 + il.length)) (([] ++ Lib.byteCells il)) :: .obj g211 (.cells #[.slice none 0 0, .slice so217 ((0 + il.length)) ca218, .slice so223 ((0 + ol.length)) ca224] 37) :: []) := hM.perm (List.perm_middle (l₁ := [_, _, _, _]))
       replace hM : Mg w w225 (.row BY 1 (.slice so223 ((0 + ol.length)) ca224) ((0 + ol.length)) (([] ++ Lib.byteCells ol)) :: .obj g4 (.cells #[.slice none 0 0, .slice none 0 0, .slice none 0 0] 37) :: .obj g2 (.cells #[.slice sF fs.length cF_, .slice sI il.length cI, .slice sO ol.length cO] 37) :: .row BY 1 (.slice so217 ((0 + il.length)) ca218) ((0 + il.length)) (([] ++ Lib.byteCells il)) :: .obj g211 (.cells #[.slice none 0 0, .slice so217 ((0 + il.length)) ca218, .slice so223 ((0 + ol.length)) ca224] 37) :: []) := hM.perm (List.perm_middle (l₁ := [_, _]))
       replace hM : Mg w w225 (.row BY 1 (.slice so217 ((0 + il.length)) ca218) ((0 + il.length)) (([] ++ Lib.byteCells il)) :: .row BY 1 (.slice so223 ((0 + ol.length)) ca224) ((0 + ol.length)) (([] ++ Lib.byteCells ol)) :: .obj g4 (.cells #[.slice none 0 0, .slice none 0 0, .slice none 0 0] 37) :: .obj g2 (.cells #[.slice sF fs.length cF_, .slice sI il.length cI, .slice sO ol.length cO] 37) :: .obj g211 (.cells #[.slice none 0 0, .slice so217 ((0 + il.length)) ca218, .slice so223 ((0 + ol.length)) ca224] 37) :: []) := hM.perm (List.perm_middle (l₁ := [_, _, _]))
       replace hM : Mg w w225 (.obj g211 (.cells #[.slice none 0 0, .slice so217 ((0 + il.length)) ca218, .slice so223 ((0 + ol.length)) ca224] 37) :: .row BY 1 (.slice so217 ((0 + il.length)) ca218) ((0 + il.length)) (([] ++ Lib.byteCells il)) :: .row BY 1 (.slice so223 ((0 + ol.length)) ca224) ((0 + ol.length)) (([] ++ Lib.byteCells ol)) :: .obj g4 (.cells #[.slice none 0 0, .slice none 0 0, .slice none 0 0] 37) :: .obj g2 (.cells #[.slice sF fs.length cF_, .slice sI il.length cI, .slice sO ol.length cO] 37) :: []) := hM.perm (List.perm_middle (l₁ := [_, _, _, _]))
       exact hJ7 _ _ ⟨so217, ca218, so223, ca224, g211, hA.keep _ ⟨rfl, rfl, rfl, rfl, trivial⟩, hM⟩
     · refine g_lit (e := BY) (sz := 1) (m := 0) (vs := []) hA hM 4 rfl rfl rfl rfl (does_buildSlice rfl (by kernel_rfl)) rfl rfl (.inr (noBld_cons (by simp) (noBld_cons (by simp) (noBld_cons (by simp) (noBld_cons (by simp) (noBld_quiet quietL_nil)))))) ?_
       intro g226 w227 hM
       refine ⟨(hM.sub (.cons _ (.cons _ (.cons _ (.cons _ (.cons_cons _ (List.nil_sublist _))))))), ?_⟩
       intro a hA
       refine any_one (by kernel_rfl) (g_append (e := BY) (sz := 1) (k := 1) (q := 0) (m := il.length) (xs := []) (news := Lib.byteCells il) (L' := fun v228 => (.row BY 1 (.slice (some ⟨g226, 0, none⟩) 0 0) 0 ([]) :: .row BY 1 (v228) ((0 + il.length)) (([] ++ Lib.byteCells il)) :: .obj g211 (.cells #[.slice none 0 0, .slice none 0 0, .slice none 0 0] 37) :: .obj g4 (.cells #[.slice none 0 0, .slice none 0 0, .slice none 0 0] 37) :: .obj g2 (.cells #[.slice sF fs.length cF_, .slice sI il.length cI, .slice sO ol.length cO] 37) :: [])) hA 3 rfl rfl rfl rfl (m_appendA Try.underlying24 (by kernel_rfl) hM 1 rfl rfl (show Rb _ _ il from hI.below hM.bel) rfl (by omega)) (fun _ => rfl) ?_)
       intro v228 w229 hM
       obtain ⟨so230, ca231, rfl⟩ := owns_sliceE (hM.has 1 rfl)
       refine ⟨(hM.sub (.cons _ (.cons _ (.cons _ (.cons _ (.cons_cons _ (List.nil_sublist _))))))), ?_⟩
       intro a hA
       refine any_one (by kernel_rfl) (g_append (e := BY) (sz := 1) (k := 0) (q := 0) (m := ol.length) (xs := []) (news := Lib.byteCells ol) (L' := fun v232 => (.row BY 1 (v232) ((0 + ol.length)) (([] ++ Lib.byteCells ol)) :: .row BY 1 (.slice so230 ((0 + il.length)) ca231) ((0 + il.length)) (([] ++ Lib.byteCells il)) :: .obj g211 (.cells #[.slice none 0 0, .slice none 0 0, .slice none 0 0] 37) :: .obj g4 (.cells #[.slice none 0 0, .slice none 0 0, .slice none 0 0] 37) :: .obj g2 (.cells #[.slice sF fs.length cF_, .slice sI il.length cI, .slice sO ol.length cO] 37) :: [])) hA 7 rfl rfl rfl rfl (m_appendA Try.underlying24 (by kernel_rfl) hM 0 rfl rfl (show Rb _ _ ol from hO.below hM.bel) rfl (by omega)) (fun _ => rfl) ?_)
       intro v232 w233 hM
       obtain ⟨so234, ca235, rfl⟩ := owns_sliceE (hM.has 0 rfl)
       refine ⟨(hM.sub (.cons _ (.cons _ (.cons _ (.cons _ (.cons_cons _ (List.nil_sublist _))))))), ?_⟩
       intro a hA
       refine any_tk (v := .agg #[.slice none 0 0, .slice so230 ((0 + il.length)) ca231, .slice so234 ((0 + ol.length)) ca235]) hA 8 rfl rfl rfl rfl hP (hM.sub (.cons _ (.cons _ (.cons _ (.cons _ (.cons_cons _ (List.nil_sublist _))))))) (fun w1 hM => does_build rfl (fun w => by kernel_rfl)) ?_
       intro a hA
       refine any_one (by kernel_rfl) (g_store (us := [.slice none 0 0, .slice so230 ((0 + il.length)) ca231, .slice so234 ((0 + ol.length)) ca235]) (L' := (.row BY 1 (.slice so234 ((0 + ol.length)) ca235) ((0 + ol.length)) (([] ++ Lib.byteCells ol)) :: .row BY 1 (.slice so230 ((0 + il.length)) ca231) ((0 + il.length)) (([] ++ Lib.byteCells il)) :: .obj g211 (.cells #[.slice none 0 0, .slice so230 ((0 + il.length)) ca231, .slice so234 ((0 + ol.length)) ca235] 37) :: .obj g4 (.cells #[.slice none 0 0, .slice none 0 0, .slice none 0 0] 37) :: .obj g2 (.cells #[.slice sF fs.length cF_, .slice sI il.length cI, .slice sO ol.length cO] 37) :: [])) hA hM 10 rfl rfl rfl (m_store rfl rfl rfl (by kernel_rfl) hM 2 rfl rfl rfl) 2 rfl rfl rfl ?_)
       intro w236 hM
       refine ⟨(hM.sub (.cons _ (.cons _ (.cons _ (.cons _ (.cons_cons _ (List.nil_sublist _))))))), ?_⟩
       refine any_end (by kernel_rfl) ?_
       replace hM : Mg w w236 (.obj g2 (.cells #[.slice sF fs.length cF_, .slice sI il.length cI, .slice sO ol.length cO] 37) :: .row BY 1 (.slice so234 ((0 + ol.length)) ca235) ((0 + ol.length)) (([] ++ Lib.byteCells ol)) :: .row BY 1 (.slice so230 ((0 + il.length)) ca231) ((0 + il.length)) (([] ++ Lib.byteCells il)) :: .obj g211 (.cells #[.slice none 0 0, .slice so230 ((0 + il.length)) ca231, .slice so234 ((0 + ol.length)) ca235] 37) :: .obj g4 (.cells #[.slice none 0 0, .slice none 0 0, .slice none 0 0] 37) :: []) := hM.perm (List.perm_middle (l₁ := [_, _, _, _]))
       replace hM : Mg w w236 (.obj g4 (.cells #[.slice none 0 0, .slice none 0 0, .slice none 0 0] 37) :: .obj g2 (.cells #[.slice sF fs.length cF_, .slice sI il.length cI, .slice sO ol.length cO] 37) :: .row BY 1 (.slice so234 ((0 + ol.length)) ca235) ((0 + ol.length)) (([] ++ Lib.byteCells ol)) :: .row BY 1 (.slice so230 ((0 + il.length)) ca231) ((0 + il.length)) (([] ++ Lib.byteCells il)) :: .obj g211 (.cells #[.slice none 0 0, .slice so230 ((0 + il.length)) ca231, .slice so234 ((0 + ol.length)) ca235] 37) :: []) := hM.perm (List.perm_middle (l₁ := [_, _, _, _]))
       replace hM : Mg w w236 (.row BY 1 (.slice so234 ((0 + ol.length)) ca235) ((0 + ol.length)) (([] ++ Lib.byteCells ol)) :: .obj g4 (.cells #[.slice none 0 0, .slice none 0 0, .slice none 0 0] 37) :: .obj g2 (.cells #[.slice sF fs.length cF_, .slice sI il.length cI, .slice sO ol.length cO] 37) :: .row BY 1 (.slice so230 ((0 + il.length)) ca231) ((0 + il.length)) (([] ++ Lib.byteCells il)) :: .obj g211 (.cells #[.slice none 0 0, .slice so230 ((0 + il.length)) ca231, .slice so234 ((0 + ol.length)) ca235] 37) :: []) := hM.perm (List.perm_middle (l₁ := [_, _]))
       replace hM : Mg w w236 (.row BY 1 (.slice so230 ((0 + il.length)) ca231) ((0 + il.length)) (([] ++ Lib.byteCells il)) :: .row BY 1 (.slice so234 ((0 + ol.length)) ca235) ((0 + ol.length)) (([] ++ Lib.byteCells ol)) :: .obj g4 (.cells #[.slice none 0 0, .slice none 0 0, .slice none 0 0] 37) :: .obj g2 (.cells #[.slice sF fs.length cF_, .slice sI il.length cI, .slice sO ol.length cO] 37) :: .obj g211 (.cells #[.slice none 0 0, .slice so230 ((0 + il.length)) ca231, .slice so234 ((0 + ol.length)) ca235] 37) :: []) := hM.perm (List.perm_middle (l₁ := [_, _, _]))
       replace hM : Mg w w236 (.obj g211 (.cells #[.slice none 0 0, .slice so230 ((0 + il.length)) ca231, .slice so234 ((0 + ol.length)) ca235] 37) :: .row BY 1 (.slice so230 ((0 + il.length)) ca231) ((0 + il.length)) (([] ++ Lib.byteCells il)) :: .row BY 1 (.slice so234 ((0 + ol.length)) ca235) ((0 + ol.length)) (([] ++ Lib.byteCells ol)) :: .obj g4 (.cells #[.slice none 0 0, .slice none 0 0, .slice none 0 0] 37) :: .obj g2 (.cells #[.slice sF fs.length cF_, .slice sI il.length cI, .slice sO ol.length cO] 37) :: []) := hM.perm (List.perm_middle (l₁ := [_, _, _, _]))
       exact hJ7 _ _ ⟨so230, ca231, so234, ca235, g211, hA.keep _ ⟨rfl, rfl, rfl, rfl, trivial⟩, hM⟩
   · refine g_lit (e := BY) (sz := 1) (m := 0) (vs := []) hA hM 4 rfl rfl rfl rfl (does_buildSlice rfl (by kernel_rfl)) rfl rfl (.inr (noBld_cons (by simp) (noBld_cons (by simp) (noBld_cons (by simp) (noBld_quiet quietL_nil))))) ?_
     intro g237 w238 hM
     refine ⟨(hM.sub (.cons _ (.cons _ (.cons _ (.cons_cons _ (List.nil_sublist _)))))), ?_⟩
     intro a hA
     refine any_one (by kernel_rfl) (g_lit (e := BY) (sz := 1) (m := 0) (vs := []) hA hM 0 rfl rfl rfl rfl (does_buildSlice rfl (by kernel_rfl)) rfl rfl (.inr (noBld_cons (by simp) (noBld_cons (by simp) (noBld_cons (by simp) (noBld_cons (by simp) (noBld_quiet quietL_nil)))))) ?_)
     intro g239 w240 hM
     refine ⟨(hM.sub (.cons _ (.cons _ (.cons _ (.cons _ (.cons_cons _ (List.nil_sublist _))))))), ?_⟩
     intro a hA
     refine any_one (by kernel_rfl) (g_append (e := BY) (sz := 1) (k := 0) (q := 0) (m := il.length) (xs := []) (news := Lib.byteCells il) (L' := fun v241 => (.row BY 1 (v241) ((0 + il.length)) (([] ++ Lib.byteCells il)) :: .row BY 1 (.slice (some ⟨g237, 0, none⟩) 0 0) 0 ([]) :: .obj g211 (.cells #[.slice none 0 0, .slice none 0 0, .slice none 0 0] 37) :: .obj g4 (.cells #[.slice none 0 0, .slice none 0 0, .slice none 0 0] 37) :: .obj g2 (.cells #[.slice sF fs.length cF_, .slice sI il.length cI, .slice sO ol.length cO] 37) :: [])) hA 3 rfl rfl rfl rfl (m_appendA Try.underlying24 (by kernel_rfl) hM 0 rfl rfl (show Rb _ _ il from hI.below hM.bel) rfl (by omega)) (fun _ => rfl) ?_)
     intro v241 w242 hM
     obtain ⟨so243, ca244, rfl⟩ := owns_sliceE (hM.has 0 rfl)
     refine ⟨(hM.sub (.cons _ (.cons _ (.cons _ (.cons _ (.cons_cons _ (List.nil_sublist _))))))), ?_⟩
     intro a hA
     refine any_one (by kernel_rfl) (g_append (e := BY) (sz := 1) (k := 1) (q := 0) (m := ol.length) (xs := []) (news := Lib.byteCells ol) (L' := fun v245 => (.row BY 1 (.slice so243 ((0 + il.length)) ca244) ((0 + il.length)) (([] ++ Lib.byteCells il)) :: .row BY 1 (v245) ((0 + ol.length)) (([] ++ Lib.byteCells ol)) :: .obj g211 (.cells #[.slice none 0 0, .slice none 0 0, .slice none 0 0] 37) :: .obj g4 (.cells #[.slice none 0 0, .slice none 0 0, .slice none 0 0] 37) :: .obj g2 (.cells #[.slice sF fs.length cF_, .slice sI il.length cI, .slice sO ol.length cO] 37) :: [])) hA 7 rfl rfl rfl rfl (m_appendA Try.underlying24 (by kernel_rfl) hM 1 rfl rfl (show Rb _ _ ol from hO.below hM.bel) rfl (by omega)) (fun _ => rfl) ?_)
     intro v245 w246 hM
     obtain ⟨so247, ca248, rfl⟩ := owns_sliceE (hM.has 1 rfl)
     refine ⟨(hM.sub (.cons _ (.cons _ (.cons _ (.cons _ (.cons_cons _ (List.nil_sublist _))))))), ?_⟩
     intro a hA
     refine any_tk (v := .agg #[.slice none 0 0, .slice so243 ((0 + il.length)) ca244, .slice so247 ((0 + ol.length)) ca248]) hA 8 rfl rfl rfl rfl hP (hM.sub (.cons _ (.cons _ (.cons _ (.cons _ (.cons_cons _ (List.nil_sublist _))))))) (fun w1 hM => does_build rfl (fun w => by kernel_rfl)) ?_
     intro a hA
     refine any_one (by kernel_rfl) (g_store (us := [.slice none 0 0, .slice so243 ((0 + il.length)) ca244, .slice so247 ((0 + ol.length)) ca248]) (L' := (.row BY 1 (.slice so243 ((0 + il.length)) ca244) ((0 + il.length)) (([] ++ Lib.byteCells il)) :: .row BY 1 (.slice so247 ((0 + ol.length)) ca248) ((0 + ol.length)) (([] ++ Lib.byteCells ol)) :: .obj g211 (.cells #[.slice none 0 0, .slice so243 ((0 + il.length)) ca244, .slice so247 ((0 + ol.length)) ca248] 37) :: .obj g4 (.cells #[.slice none 0 0, .slice none 0 0, .slice none 0 0] 37) :: .obj g2 (.cells #[.slice sF fs.length cF_, .slice sI il.length cI, .slice sO ol.length cO] 37) :: [])) hA hM 10 rfl rfl rfl (m_store rfl rfl rfl (by kernel_rfl) hM 2 rfl rfl rfl) 2 rfl rfl rfl ?_)
     intro w249 hM
     refine ⟨(hM.sub (.cons _ (.cons _ (.cons _ (.cons _ (.cons_cons _ (List.nil_sublist _))))))), ?_⟩
     refine any_end (by kernel_rfl) ?_
     replace hM : Mg w w249 (.obj g2 (.cells #[.slice sF fs.length cF_, .slice sI il.length cI, .slice sO ol.length cO] 37) :: .row BY 1 (.slice so243 ((0 + il.length)) ca244) ((0 + il.length)) (([] ++ Lib.byteCells il)) :: .row BY 1 (.slice so247 ((0 + ol.length)) ca248) ((0 + ol.length)) (([] ++ Lib.byteCells ol)) :: .obj g211 (.cells #[.slice none 0 0, .slice so243 ((0 + il.length)) ca244, .slice so247 ((0 + ol.length)) ca248] 37) :: .obj g4 (.cells #[.slice none 0 0, .slice none 0 0, .slice none 0 0] 37) :: []) := hM.perm (List.perm_middle (l₁ := [_, _, _, _]))
     replace hM : Mg w w249 (.obj g4 (.cells #[.slice none 0 0, .slice none 0 0, .slice none 0 0] 37) :: .obj g2 (.cells #[.slice sF fs.length cF_, .slice sI il.length cI, .slice sO ol.length cO] 37) :: .row BY 1 (.slice so243 ((0 + il.length)) ca244) ((0 + il.length)) (([] ++ Lib.byteCells il)) :: .row BY 1 (.slice so247 ((0 + ol.length)) ca248) ((0 + ol.length)) (([] ++ Lib.byteCells ol)) :: .obj g211 (.cells #[.slice none 0 0, .slice so243 ((0 + il.length)) ca244, .slice so247 ((0 + ol.length)) ca248] 37) :: []) := hM.perm (List.perm_middle (l₁ := [_, _, _, _]))
     replace hM : Mg w w249 (.row BY 1 (.slice so247 ((0 + ol.length)) ca248) ((0 + ol.length)) (([] ++ Lib.byteCells ol)) :: .obj g4 (.cells #[.slice none 0 0, .slice none 0 0, .slice none 0 0] 37) :: .obj g2 (.cells #[.slice sF fs.length cF_, .slice sI il.length cI, .slice sO ol.length cO] 37) :: .row BY 1 (.slice so243 ((0 + il.length)) ca244) ((0 + il.length)) (([] ++ Lib.byteCells il)) :: .obj g211 (.cells #[.slice none 0 0, .slice so243 ((0 + il.length)) ca244, .slice so247 ((0 + ol.length)) ca248] 37) :: []) := hM.perm (List.perm_middle (l₁ := [_, _, _]))
     replace hM : Mg w w249 (.row BY 1 (.slice so243 ((0 + il.length)) ca244) ((0 + il.length)) (([] ++ Lib.byteCells il)) :: .row BY 1 (.slice so247 ((0 + ol.length)) ca248) ((0 + ol.length)) (([] ++ Lib.byteCells ol)) :: .obj g4 (.cells #[.slice none 0 0, .slice none 0 0, .slice none 0 0] 37) :: .obj g2 (.cells #[.slice sF fs.length cF_, .slice sI il.length cI, .slice sO ol.length cO] 37) :: .obj g211 (.cells #[.slice none 0 0, .slice so243 ((0 + il.length)) ca244, .slice so247 ((0 + ol.length)) ca248] 37) :: []) := hM.perm (List.perm_middle (l₁ := [_, _, _]))
     replace hM : Mg w w249 (.obj g211 (.cells #[.slice none 0 0, .slice so243 ((0 + il.length)) ca244, .slice so247 ((0 + ol.length)) ca248] 37) :: .row BY 1 (.slice so243 ((0 + il.length)) ca244) ((0 + il.length)) (([] ++ Lib.byteCells il)) :: .row BY 1 (.slice so247 ((0 + ol.length)) ca248) ((0 + ol.length)) (([] ++ Lib.byteCells ol)) :: .obj g4 (.cells #[.slice none 0 0, .slice none 0 0, .slice none 0 0] 37) :: .obj g2 (.cells #[.slice sF fs.length cF_, .slice sI il.length cI, .slice sO ol.length cO] 37) :: []) := hM.perm (List.perm_middle (l₁ := [_, _, _, _]))
     exact hJ7 _ _ ⟨so243, ca244, so247, ca248, g211, hA.keep _ ⟨rfl, rfl, rfl, rfl, trivial⟩, hM⟩
end Go.Proofs.Ytcjgjbaadmohbaa
