/- Walks of what world asks of names and worlds. -/
import Derived.Test.YtcjgjbaadmohbaaWa
import Derived.Test.YtcjgjbaadmohbaaProg
import Derived.Test.YtcjgjbaadmohbaaShelf
namespace Go.Proofs.Ytcjgjbaadmohbaa
open Go.RowKit
set_option linter.unusedVariables false
set_option linter.unusedSimpArgs false
set_option maxRecDepth 100000
theorem Wb_is1_24 : Is1 Try.prog 24 := ⟨⟨_, Try.underlying24, rfl⟩, by kernel_rfl⟩
theorem Wb_is1_35 : Is1 Try.prog 35 := ⟨⟨_, Try.underlying35, rfl⟩, by kernel_rfl⟩
theorem Wb_is1_9 : Is1 Try.prog 9 := ⟨⟨_, Try.underlying9, rfl⟩, by kernel_rfl⟩
theorem Wb_fld_37_0 : FieldAt Try.prog 37 0 0 := ⟨_, _, Try.underlying37, rfl, rfl, by kernel_rfl⟩
theorem Wb_fld_37_1 : FieldAt Try.prog 37 1 1 := ⟨_, _, Try.underlying37, rfl, rfl, by kernel_rfl⟩
theorem Wb_fld_37_2 : FieldAt Try.prog 37 2 2 := ⟨_, _, Try.underlying37, rfl, rfl, by kernel_rfl⟩
theorem Wb_fld_88_0 : FieldAt Try.prog 88 0 0 := ⟨_, _, Try.underlying88, rfl, rfl, by kernel_rfl⟩
theorem Wb_fld_88_1 : FieldAt Try.prog 88 1 1 := ⟨_, _, Try.underlying88, rfl, rfl, by kernel_rfl⟩
theorem Wb_isS_88 : IsS Try.prog 88 2 := ⟨⟨_, Try.underlying88⟩, by kernel_rfl⟩
theorem leq_not (a b : ByteArray) : (ltN a b || decide (a = b)) = !(ltN b a) := by
  by_cases h : a = b
  · subst h; rw [ltN_irrefl]; simp
  · rw [decide_eq_false h, Bool.or_false]
    cases k : ltN a b with
    | true => rw [ltN_asymm k]; rfl
    | false => rw [ltN_total k h]; rfl
theorem allowed_any {w : World} {nm : ByteArray} : Calls Try.prog 53 #[.string nm] w fun e w' => e = .returned (.bool (namedB nm)) ∧ Below w.heap.size w w' := by
 have hM : Mg w w ([]) := Mg.start w
 refine walk_of (l := [(0, .string nm)]) Try.func53 rfl Try.ntmps53 rfl rfl ?_
 intro Q hret hnorm hP a hA
 refine wp_seq_k (fun K1 hK1 => ?_)
 refine wp_region_lit ?_
 refine seq_do hA rfl rfl rfl (does_assign rfl) ?_
 intro a hA
 refine seq_end ?_
 refine hK1 _ _ ?_
 refine wp_seq_k (fun K2 hK2 => ?_)
 refine wp_region_lit ?_
 refine seq_do hA rfl rfl rfl (does_move rfl) ?_
 intro a hA
 rcases Bool.eq_false_or_eq_true (decide (nm.size = 0)) with hb3 | hb3
 · have hb3' := of_decide_eq_true hb3
   refine seq_do (v := .bool false) hA rfl rfl rfl (does_bin rfl rfl (fun w => (bin_neqS Try.underlying9 w).trans (by rw [decide_eq_true (empty_iff.2 (of_decide_eq_true hb3))]; rfl))) ?_
   intro a hA
   refine seq_do hA rfl rfl rfl (does_move rfl) ?_
   intro a hA
   refine seq_skip hA rfl rfl rfl ?_
   intro a hA
   refine seq_skip hA rfl rfl rfl ?_
   intro a hA
   refine seq_skip hA rfl rfl rfl ?_
   intro a hA
   refine seq_do (v := .bool false) hA rfl rfl rfl (does_pick rfl rfl rfl rfl) ?_
   intro a hA
   refine seq_do hA rfl rfl rfl (does_assign rfl) ?_
   intro a hA
   refine seq_end ?_
   refine hK2 _ _ ?_
   refine wp_ret ?_
   refine hret _ _ ?_
   refine ends (v := .bool false) hA rfl (.cons (res_tmp rfl) .nil) rfl ?_
   exact ⟨by rw [show namedB nm = false from by unfold namedB; apply decide_eq_false; omega], hM.bel⟩
 · have hb3' := of_decide_eq_false hb3
   refine seq_do (v := .bool true) hA rfl rfl rfl (does_bin rfl rfl (fun w => (bin_neqS Try.underlying9 w).trans (by rw [decide_eq_false (fun k => of_decide_eq_false hb3 (empty_iff.1 k))]; rfl))) ?_
   intro a hA
   refine seq_do hA rfl rfl rfl (does_move rfl) ?_
   intro a hA
   refine seq_do hA rfl rfl rfl (does_move rfl) ?_
   intro a hA
   refine seq_do (v := .int .i64 (((nm.size : Nat) : Int))) hA rfl rfl rfl (does_builtin rfl (len_str Try.underlying9)) ?_
   intro a hA
   rcases Bool.eq_false_or_eq_true (decide (((nm.size : Nat) : Int) ≤ 255)) with hb4 | hb4
   · have hb4' := of_decide_eq_true hb4
     refine seq_do (v := .bool true) hA rfl rfl rfl (does_bin rfl rfl (fun w => (bin_leq w).trans (by rw [hb4]))) ?_
     intro a hA
     refine seq_do (v := .bool true) hA rfl rfl rfl (does_pick rfl rfl rfl rfl) ?_
     intro a hA
     refine seq_do hA rfl rfl rfl (does_assign rfl) ?_
     intro a hA
     refine seq_end ?_
     refine hK2 _ _ ?_
     refine wp_ret ?_
     refine hret _ _ ?_
     refine ends (v := .bool true) hA rfl (.cons (res_tmp rfl) .nil) rfl ?_
     exact ⟨by rw [show namedB nm = true from by unfold namedB; apply decide_eq_true; omega], hM.bel⟩
   · have hb4' := of_decide_eq_false hb4
     refine seq_do (v := .bool false) hA rfl rfl rfl (does_bin rfl rfl (fun w => (bin_leq w).trans (by rw [hb4]))) ?_
     intro a hA
     refine seq_do (v := .bool false) hA rfl rfl rfl (does_pick rfl rfl rfl rfl) ?_
     intro a hA
     refine seq_do hA rfl rfl rfl (does_assign rfl) ?_
     intro a hA
     refine seq_end ?_
     refine hK2 _ _ ?_
     refine wp_ret ?_
     refine hret _ _ ?_
     refine ends (v := .bool false) hA rfl (.cons (res_tmp rfl) .nil) rfl ?_
     exact ⟨by rw [show namedB nm = false from by unfold namedB; apply decide_eq_false; omega], hM.bel⟩
theorem allowed_as {w : World} {nm : ByteArray} {b : Bool} (h : namedB nm = b) : Calls Try.prog 53 #[.string nm] w fun e w' => e = .returned (.bool b) ∧ Below w.heap.size w w' := h ▸ allowed_any
theorem sound_any {w : World} {sF sI sO : Option Addr} {cF_ cI cO : Nat} {fs : List Fl} {il ol : List UInt8} (hF : Rf w sF fs) (hn : fs.length ≤ 4398046511104) : Calls Try.prog 30 #[.agg #[.slice sF fs.length cF_, .slice sI il.length cI, .slice sO ol.length cO]] w fun e w' => e = .returned (.bool (soundS fs il ol)) ∧ Below w.heap.size w w' := by
 have hM : Mg w w ([]) := Mg.start w
 refine walk_of (l := [(0, .agg #[.slice sF fs.length cF_, .slice sI il.length cI, .slice sO ol.length cO])]) Try.func30 rfl Try.ntmps30 rfl rfl ?_
 intro Q hret hnorm hP a hA
 refine wp_seq_k (fun K1 hK1 => ?_)
 refine wp_region_lit ?_
 refine s_new (vs := [.slice sF fs.length cF_, .slice sI il.length cI, .slice sO ol.length cO]) (t := 37) hA hM rfl rfl rfl (fun g => .pointer (some ⟨g, 0, none⟩)) (does_box rfl rfl) (by decide) ?_
 intro g2 w3 hM a hA
 refine seq_do hA rfl rfl rfl (does_assign rfl) ?_
 intro a hA
 refine seq_end ?_
 refine hK1 _ _ ?_
 refine wp_seq_k (fun K4 hK4 => ?_)
 refine wp_seq_k (fun K5 hK5 => ?_)
 refine wp_region_lit ?_
 refine seq_do (v := .pointer (some ⟨g2, 0, none⟩)) hA rfl rfl rfl (does_field Wb_fld_37_0 rfl rfl) ?_
 intro a hA
 refine seq_do hA rfl rfl rfl (m_load1 hM Wb_is1_35 rfl 0 rfl rfl) ?_
 intro a hA
 refine seq_do (v := .int .i64 (((fs.length : Nat) : Int))) hA rfl rfl rfl (does_len Try.underlying35 rfl) ?_
 intro a hA
 rcases Bool.eq_false_or_eq_true (decide (64 < ((fs.length : Nat) : Int))) with hb6 | hb6
 · have hb6' := of_decide_eq_true hb6
   refine seq_do (v := .bool true) hA rfl rfl rfl (does_bin rfl rfl (fun w => (bin_gtr w).trans (by rw [hb6]))) ?_
   intro a hA
   refine seq_do hA rfl rfl rfl (does_move rfl) ?_
   intro a hA
   refine seq_skip hA rfl rfl rfl ?_
   intro a hA
   refine seq_skip hA rfl rfl rfl ?_
   intro a hA
   refine seq_skip hA rfl rfl rfl ?_
   intro a hA
   refine seq_skip hA rfl rfl rfl ?_
   intro a hA
   refine seq_do (v := .bool true) hA rfl rfl rfl (does_pick rfl rfl rfl rfl) ?_
   intro a hA
   refine seq_do hA rfl rfl rfl (does_move rfl) ?_
   intro a hA
   refine seq_skip hA rfl rfl rfl ?_
   intro a hA
   refine seq_skip hA rfl rfl rfl ?_
   intro a hA
   refine seq_skip hA rfl rfl rfl ?_
   intro a hA
   refine seq_skip hA rfl rfl rfl ?_
   intro a hA
   refine seq_do (v := .bool true) hA rfl rfl rfl (does_pick rfl rfl rfl rfl) ?_
   intro a hA
   refine seq_end ?_
   refine hK5 _ _ ?_
   refine wp_cond_true (hA.ev rfl) ?_
   refine wp_seq_k (fun K7 hK7 => ?_)
   refine wp_region_lit ?_
   refine seq_do hA rfl rfl rfl (does_assign rfl) ?_
   intro a hA
   refine seq_end ?_
   refine hK7 _ _ ?_
   refine wp_ret ?_
   refine hret _ _ ?_
   refine ends (v := .bool false) hA rfl (.cons (res_tmp rfl) .nil) rfl ?_
   exact ⟨by rw [show soundS fs il ol = false from by unfold soundS; rw [decide_eq_false (by omega)]; rfl], hM.bel⟩
 · have hb6' := of_decide_eq_false hb6
   refine seq_do (v := .bool false) hA rfl rfl rfl (does_bin rfl rfl (fun w => (bin_gtr w).trans (by rw [hb6]))) ?_
   intro a hA
   refine seq_do hA rfl rfl rfl (does_move rfl) ?_
   intro a hA
   refine seq_do (v := .pointer (some ⟨g2, 1, none⟩)) hA rfl rfl rfl (does_field Wb_fld_37_1 rfl rfl) ?_
   intro a hA
   refine seq_do hA rfl rfl rfl (m_load1 hM Wb_is1_24 rfl 0 rfl rfl) ?_
   intro a hA
   refine seq_do (v := .int .i64 (((il.length : Nat) : Int))) hA rfl rfl rfl (does_len Try.underlying24 rfl) ?_
   intro a hA
   rcases Bool.eq_false_or_eq_true (decide (65536 < ((il.length : Nat) : Int))) with hb8 | hb8
   · have hb8' := of_decide_eq_true hb8
     refine seq_do (v := .bool true) hA rfl rfl rfl (does_bin rfl rfl (fun w => (bin_gtr w).trans (by rw [hb8]))) ?_
     intro a hA
     refine seq_do (v := .bool true) hA rfl rfl rfl (does_pick rfl rfl rfl rfl) ?_
     intro a hA
     refine seq_do hA rfl rfl rfl (does_move rfl) ?_
     intro a hA
     refine seq_skip hA rfl rfl rfl ?_
     intro a hA
     refine seq_skip hA rfl rfl rfl ?_
     intro a hA
     refine seq_skip hA rfl rfl rfl ?_
     intro a hA
     refine seq_skip hA rfl rfl rfl ?_
     intro a hA
     refine seq_do (v := .bool true) hA rfl rfl rfl (does_pick rfl rfl rfl rfl) ?_
     intro a hA
     refine seq_end ?_
     refine hK5 _ _ ?_
     refine wp_cond_true (hA.ev rfl) ?_
     refine wp_seq_k (fun K9 hK9 => ?_)
     refine wp_region_lit ?_
     refine seq_do hA rfl rfl rfl (does_assign rfl) ?_
     intro a hA
     refine seq_end ?_
     refine hK9 _ _ ?_
     refine wp_ret ?_
     refine hret _ _ ?_
     refine ends (v := .bool false) hA rfl (.cons (res_tmp rfl) .nil) rfl ?_
     exact ⟨by rw [show soundS fs il ol = false from by unfold soundS; rw [decide_eq_false (by omega)]; rfl], hM.bel⟩
   · have hb8' := of_decide_eq_false hb8
     refine seq_do (v := .bool false) hA rfl rfl rfl (does_bin rfl rfl (fun w => (bin_gtr w).trans (by rw [hb8]))) ?_
     intro a hA
     refine seq_do (v := .bool false) hA rfl rfl rfl (does_pick rfl rfl rfl rfl) ?_
     intro a hA
     refine seq_do hA rfl rfl rfl (does_move rfl) ?_
     intro a hA
     refine seq_do (v := .pointer (some ⟨g2, 2, none⟩)) hA rfl rfl rfl (does_field Wb_fld_37_2 rfl rfl) ?_
     intro a hA
     refine seq_do hA rfl rfl rfl (m_load1 hM Wb_is1_24 rfl 0 rfl rfl) ?_
     intro a hA
     refine seq_do (v := .int .i64 (((ol.length : Nat) : Int))) hA rfl rfl rfl (does_len Try.underlying24 rfl) ?_
     intro a hA
     rcases Bool.eq_false_or_eq_true (decide (65536 < ((ol.length : Nat) : Int))) with hb10 | hb10
     · have hb10' := of_decide_eq_true hb10
       refine seq_do (v := .bool true) hA rfl rfl rfl (does_bin rfl rfl (fun w => (bin_gtr w).trans (by rw [hb10]))) ?_
       intro a hA
       refine seq_do (v := .bool true) hA rfl rfl rfl (does_pick rfl rfl rfl rfl) ?_
       intro a hA
       refine seq_end ?_
       refine hK5 _ _ ?_
       refine wp_cond_true (hA.ev rfl) ?_
       refine wp_seq_k (fun K11 hK11 => ?_)
       refine wp_region_lit ?_
       refine seq_do hA rfl rfl rfl (does_assign rfl) ?_
       intro a hA
       refine seq_end ?_
       refine hK11 _ _ ?_
       refine wp_ret ?_
       refine hret _ _ ?_
       refine ends (v := .bool false) hA rfl (.cons (res_tmp rfl) .nil) rfl ?_
       exact ⟨by rw [show soundS fs il ol = false from by unfold soundS; rw [decide_eq_false (by omega)]; rfl], hM.bel⟩
     · have hb10' := of_decide_eq_false hb10
       refine seq_do (v := .bool false) hA rfl rfl rfl (does_bin rfl rfl (fun w => (bin_gtr w).trans (by rw [hb10]))) ?_
       intro a hA
       refine seq_do (v := .bool false) hA rfl rfl rfl (does_pick rfl rfl rfl rfl) ?_
       intro a hA
       refine seq_end ?_
       refine hK5 _ _ ?_
       refine wp_cond_false (hA.ev rfl) ?_
       refine wp_skip ?_
       refine hK4 _ _ ?_
       refine wp_seq_k (fun K12 hK12 => ?_)
       refine wp_region_lit ?_
       refine seq_do hA rfl rfl rfl (does_assign rfl) ?_
       intro a hA
       refine seq_end ?_
       refine hK12 _ _ ?_
       refine wp_seq_k (fun K13 hK13 => ?_)
       refine wp_seq_k (fun K14 hK14 => ?_)
       refine wp_region_lit ?_
       refine seq_do (v := .pointer (some ⟨g2, 0, none⟩)) hA rfl rfl rfl (does_field Wb_fld_37_0 rfl rfl) ?_
       intro a hA
       refine seq_do hA rfl rfl rfl (m_load1 hM Wb_is1_35 rfl 0 rfl rfl) ?_
       intro a hA
       refine seq_do (v := .int .i64 (((fs.length : Nat) : Int))) hA rfl rfl rfl (does_len Try.underlying35 rfl) ?_
       intro a hA
       refine seq_do hA rfl rfl rfl (does_move rfl) ?_
       intro a hA
       refine seq_end ?_
       refine hK14 _ _ ?_
       refine wp_block ?_
       refine wp_loop_n (fun m_ a w1 => ∃ (i : Nat) (last : ByteArray), m_ = fs.length - i ∧ (risesF last (fs.drop i) = risesF ⟨#[]⟩ fs ∧ i ≤ fs.length) ∧ Sl a 48 [(0, .agg #[.slice sF fs.length cF_, .slice sI il.length cI, .slice sO ol.length cO]), (1, .pointer (some ⟨g2, 0, none⟩)), (3, .string last), (6, .pointer (some ⟨g2, 0, none⟩)), (7, .slice sF fs.length cF_), (8, .int .i64 (((fs.length : Nat) : Int))), (9, .bool false), (10, .bool false), (11, .pointer (some ⟨g2, 1, none⟩)), (12, .slice sI il.length cI), (13, .int .i64 (((il.length : Nat) : Int))), (14, .bool false), (15, .bool false), (16, .bool false), (17, .pointer (some ⟨g2, 2, none⟩)), (18, .slice sO ol.length cO), (19, .int .i64 (((ol.length : Nat) : Int))), (20, .bool false), (21, .bool false), (22, .pointer (some ⟨g2, 0, none⟩)), (23, .slice sF fs.length cF_), (24, .int .i64 (((fs.length : Nat) : Int))), (25, .int .i64 (((i : Nat) : Int)))] ∧ Mg w w1 (.obj g2 (.cells #[.slice sF fs.length cF_, .slice sI il.length cI, .slice sO ol.length cO] 37) :: [])) _ ⟨0, ⟨#[]⟩, rfl, ⟨by rw [List.drop_zero], Nat.zero_le _⟩, hA.keep _ ⟨rfl, rfl, rfl, rfl, rfl, rfl, rfl, rfl, rfl, rfl, rfl, rfl, rfl, rfl, rfl, rfl, rfl, rfl, rfl, rfl, rfl, rfl, rfl, trivial⟩, hM⟩ ?_
       clear hM hA
       rintro m_ a w15 ⟨i, last, rfl, hinv17, hA, hM⟩ K16 hK16
       obtain ⟨hrun, hi9⟩ := hinv17
       refine wp_seq_k (fun K18 hK18 => ?_)
       refine wp_region_lit ?_
       rcases Bool.eq_false_or_eq_true (decide (((i : Nat) : Int) < ((fs.length : Nat) : Int))) with hb19 | hb19
       · have hb19' := of_decide_eq_true hb19
         refine seq_do (v := .bool true) hA rfl rfl rfl (does_bin rfl rfl (fun w => (bin_lss w).trans (by rw [hb19]))) ?_
         intro a hA
         refine seq_end ?_
         refine hK18 _ _ ?_
         refine wp_seq_k (fun K20 hK20 => ?_)
         refine wp_cond_true (hA.ev rfl) ?_
         refine wp_skip ?_
         refine hK20 _ _ ?_
         refine wp_seq_k (fun K21 hK21 => ?_)
         refine wp_block ?_
         refine wp_seq_k (fun K22 hK22 => ?_)
         refine wp_region_lit ?_
         obtain ⟨fn23, fd24, hf29⟩ := file_get (fs := fs) (i := i) (by omega)
         obtain ⟨bf25, of26, sj27, cj28, hf30, hf31, hf32, hf33, hf34, hf35⟩ := hF.pos _ _ hf29
         refine seq_do (v := .pointer (some ⟨bf25, of26 + i * 2, none⟩)) hA rfl rfl rfl (does_indexA Try.underlying35 (by kernel_rfl) rfl rfl rfl hf30 (show i < fs.length by omega)) ?_
         intro a hA
         refine seq_do (v := .agg #[.string fn23, .slice sj27 fd24.length cj28]) hA rfl rfl rfl (m_loadR2 hM hf31 hf32 hf33 Wb_isS_88 rfl) ?_
         intro a hA
         refine s_new (vs := [.string (⟨#[]⟩), .slice none 0 0]) (t := 88) hA hM rfl rfl rfl (fun g => .pointer (some ⟨g, 0, none⟩)) (does_alloc (z := .agg #[.string (⟨#[]⟩), .slice none 0 0]) (by kernel_rfl) rfl) (by decide) ?_
         intro g36 w37 hM a hA
         refine s_store (us := [.string fn23, .slice sj27 fd24.length cj28]) (L' := (.obj g36 (.cells #[.string fn23, .slice sj27 fd24.length cj28] 88) :: .obj g2 (.cells #[.slice sF fs.length cF_, .slice sI il.length cI, .slice sO ol.length cO] 37) :: [])) hA hM rfl rfl (m_store rfl rfl rfl (by kernel_rfl) hM 0 rfl rfl rfl) 0 rfl rfl rfl ?_
         intro w38 hM
         refine seq_end ?_
         refine hK22 _ _ ?_
         refine wp_seq_k (fun K39 hK39 => ?_)
         refine wp_seq_k (fun K40 hK40 => ?_)
         refine wp_region_lit ?_
         refine seq_do (v := .pointer (some ⟨g36, 0, none⟩)) hA rfl rfl rfl (does_field Wb_fld_88_0 rfl rfl) ?_
         intro a hA
         refine seq_do hA rfl rfl rfl (m_load1 hM Wb_is1_9 rfl 0 rfl rfl) ?_
         intro a hA
         rcases Bool.eq_false_or_eq_true (namedB fn23) with hb41 | hb41
         · refine seq_call hA rfl rfl rfl (enters_func rfl rfl (fun w => by kernel_rfl)) (allowed_as hb41) ?_
           rintro _ w43 ⟨rfl, hb42⟩
           replace hM := hM.call hb42
           refine ⟨_, rfl, ?_⟩
           intro a hA
           refine seq_do (v := .bool false) hA rfl rfl rfl (does_un rfl un_not) ?_
           intro a hA
           refine seq_do hA rfl rfl rfl (does_move rfl) ?_
           intro a hA
           refine seq_do (v := .pointer (some ⟨g36, 0, none⟩)) hA rfl rfl rfl (does_field Wb_fld_88_0 rfl rfl) ?_
           intro a hA
           refine seq_do hA rfl rfl rfl (m_load1 hM Wb_is1_9 rfl 0 rfl rfl) ?_
           intro a hA
           refine seq_do hA rfl rfl rfl (does_move rfl) ?_
           intro a hA
           rcases Bool.eq_false_or_eq_true (ltN last fn23) with hb44 | hb44
           · refine seq_do (v := .bool false) hA rfl rfl rfl (does_bin rfl rfl (fun w => (bin_leqS w).trans (by rw [leq_not, hb44]; rfl))) ?_
             intro a hA
             refine seq_do (v := .bool false) hA rfl rfl rfl (does_pick rfl rfl rfl rfl) ?_
             intro a hA
             refine seq_do hA rfl rfl rfl (does_move rfl) ?_
             intro a hA
             refine seq_do (v := .pointer (some ⟨g36, 1, none⟩)) hA rfl rfl rfl (does_field Wb_fld_88_1 rfl rfl) ?_
             intro a hA
             refine seq_do hA rfl rfl rfl (m_load1 hM Wb_is1_24 rfl 0 rfl rfl) ?_
             intro a hA
             refine seq_do (v := .int .i64 (((fd24.length : Nat) : Int))) hA rfl rfl rfl (does_len Try.underlying24 rfl) ?_
             intro a hA
             rcases Bool.eq_false_or_eq_true (decide (65536 < ((fd24.length : Nat) : Int))) with hb45 | hb45
             · have hb45' := of_decide_eq_true hb45
               refine seq_do (v := .bool true) hA rfl rfl rfl (does_bin rfl rfl (fun w => (bin_gtr w).trans (by rw [hb45]))) ?_
               intro a hA
               refine seq_do (v := .bool true) hA rfl rfl rfl (does_pick rfl rfl rfl rfl) ?_
               intro a hA
               refine seq_end ?_
               refine hK40 _ _ ?_
               refine wp_cond_true (hA.ev rfl) ?_
               refine wp_seq_k (fun K46 hK46 => ?_)
               refine wp_region_lit ?_
               refine seq_do hA rfl rfl rfl (does_assign rfl) ?_
               intro a hA
               refine seq_end ?_
               refine hK46 _ _ ?_
               refine wp_ret ?_
               refine hret _ _ ?_
               refine ends (v := .bool false) hA rfl (.cons (res_tmp rfl) .nil) rfl ?_
               have h9 : risesF ⟨#[]⟩ fs = false := by
                 rw [← hrun, rises_step hf29]
                 rw [show okF (fn23, fd24) = false from by unfold okF; rw [decide_eq_false (show ¬ (fn23, fd24).2.length ≤ 65536 by show ¬ fd24.length ≤ 65536; omega), Bool.and_false]]; rfl
               exact ⟨by rw [show soundS fs il ol = false from by unfold soundS; rw [h9, Bool.and_false]], hM.bel⟩
             · have hb45' := of_decide_eq_false hb45
               refine seq_do (v := .bool false) hA rfl rfl rfl (does_bin rfl rfl (fun w => (bin_gtr w).trans (by rw [hb45]))) ?_
               intro a hA
               refine seq_do (v := .bool false) hA rfl rfl rfl (does_pick rfl rfl rfl rfl) ?_
               intro a hA
               refine seq_end ?_
               refine hK40 _ _ ?_
               refine wp_cond_false (hA.ev rfl) ?_
               refine wp_skip ?_
               refine hK39 _ _ ?_
               refine wp_region_lit ?_
               refine seq_do (v := .pointer (some ⟨g36, 0, none⟩)) hA rfl rfl rfl (does_field Wb_fld_88_0 rfl rfl) ?_
               intro a hA
               refine seq_do hA rfl rfl rfl (m_load1 hM Wb_is1_9 rfl 0 rfl rfl) ?_
               intro a hA
               refine seq_do hA rfl rfl rfl (does_assign rfl) ?_
               intro a hA
               refine seq_end ?_
               refine hK21 _ _ ?_
               refine wp_region_lit ?_
               refine seq_do (v := .int .i64 (((i + 1 : Nat) : Int))) hA rfl rfl rfl (does_bin rfl rfl (ar_add ((in_i64 (by omega) (by omega)).trans (by omega)))) ?_
               intro a hA
               refine seq_do hA rfl rfl rfl (does_move rfl) ?_
               intro a hA
               refine seq_end ?_
               have h9 : risesF fn23 (fs.drop (i + 1)) = risesF ⟨#[]⟩ fs := by
                 rw [← hrun, rises_step hf29, show okF (fn23, fd24) = true from by unfold okF; rw [show namedB (fn23, fd24).1 = true from hb41, decide_eq_true (show (fn23, fd24).2.length ≤ 65536 by show fd24.length ≤ 65536; omega)]; rfl, show ltN last (fn23, fd24).1 = true from hb44]
                 rfl
               replace hM : Mg w w43 (.obj g2 (.cells #[.slice sF fs.length cF_, .slice sI il.length cI, .slice sO ol.length cO] 37) :: []) := by
                 have h9 := hM.sub (.cons _ (.cons_cons _ (.refl _)))
                 exact h9
               refine hK16 _ _ _ (by omega) ⟨i + 1, fn23, rfl, ⟨h9, by omega⟩, hA.keep _ ⟨rfl, rfl, rfl, rfl, rfl, rfl, rfl, rfl, rfl, rfl, rfl, rfl, rfl, rfl, rfl, rfl, rfl, rfl, rfl, rfl, rfl, rfl, rfl, trivial⟩, hM⟩
           · refine seq_do (v := .bool true) hA rfl rfl rfl (does_bin rfl rfl (fun w => (bin_leqS w).trans (by rw [leq_not, hb44]; rfl))) ?_
             intro a hA
             refine seq_do (v := .bool true) hA rfl rfl rfl (does_pick rfl rfl rfl rfl) ?_
             intro a hA
             refine seq_do hA rfl rfl rfl (does_move rfl) ?_
             intro a hA
             refine seq_skip hA rfl rfl rfl ?_
             intro a hA
             refine seq_skip hA rfl rfl rfl ?_
             intro a hA
             refine seq_skip hA rfl rfl rfl ?_
             intro a hA
             refine seq_skip hA rfl rfl rfl ?_
             intro a hA
             refine seq_do (v := .bool true) hA rfl rfl rfl (does_pick rfl rfl rfl rfl) ?_
             intro a hA
             refine seq_end ?_
             refine hK40 _ _ ?_
             refine wp_cond_true (hA.ev rfl) ?_
             refine wp_seq_k (fun K47 hK47 => ?_)
             refine wp_region_lit ?_
             refine seq_do hA rfl rfl rfl (does_assign rfl) ?_
             intro a hA
             refine seq_end ?_
             refine hK47 _ _ ?_
             refine wp_ret ?_
             refine hret _ _ ?_
             refine ends (v := .bool false) hA rfl (.cons (res_tmp rfl) .nil) rfl ?_
             have h9 : risesF ⟨#[]⟩ fs = false := by
               rw [← hrun, rises_step hf29]
               rw [show ltN last (fn23, fd24).1 = false from hb44, Bool.and_false]; rfl
             exact ⟨by rw [show soundS fs il ol = false from by unfold soundS; rw [h9, Bool.and_false]], hM.bel⟩
         · refine seq_call hA rfl rfl rfl (enters_func rfl rfl (fun w => by kernel_rfl)) (allowed_as hb41) ?_
           rintro _ w49 ⟨rfl, hb48⟩
           replace hM := hM.call hb48
           refine ⟨_, rfl, ?_⟩
           intro a hA
           refine seq_do (v := .bool true) hA rfl rfl rfl (does_un rfl un_not) ?_
           intro a hA
           refine seq_do hA rfl rfl rfl (does_move rfl) ?_
           intro a hA
           refine seq_skip hA rfl rfl rfl ?_
           intro a hA
           refine seq_skip hA rfl rfl rfl ?_
           intro a hA
           refine seq_skip hA rfl rfl rfl ?_
           intro a hA
           refine seq_skip hA rfl rfl rfl ?_
           intro a hA
           refine seq_do (v := .bool true) hA rfl rfl rfl (does_pick rfl rfl rfl rfl) ?_
           intro a hA
           refine seq_do hA rfl rfl rfl (does_move rfl) ?_
           intro a hA
           refine seq_skip hA rfl rfl rfl ?_
           intro a hA
           refine seq_skip hA rfl rfl rfl ?_
           intro a hA
           refine seq_skip hA rfl rfl rfl ?_
           intro a hA
           refine seq_skip hA rfl rfl rfl ?_
           intro a hA
           refine seq_do (v := .bool true) hA rfl rfl rfl (does_pick rfl rfl rfl rfl) ?_
           intro a hA
           refine seq_end ?_
           refine hK40 _ _ ?_
           refine wp_cond_true (hA.ev rfl) ?_
           refine wp_seq_k (fun K50 hK50 => ?_)
           refine wp_region_lit ?_
           refine seq_do hA rfl rfl rfl (does_assign rfl) ?_
           intro a hA
           refine seq_end ?_
           refine hK50 _ _ ?_
           refine wp_ret ?_
           refine hret _ _ ?_
           refine ends (v := .bool false) hA rfl (.cons (res_tmp rfl) .nil) rfl ?_
           have h9 : risesF ⟨#[]⟩ fs = false := by
             rw [← hrun, rises_step hf29]
             rw [show okF (fn23, fd24) = false from by unfold okF; rw [show namedB (fn23, fd24).1 = false from hb41]; rfl]; rfl
           exact ⟨by rw [show soundS fs il ol = false from by unfold soundS; rw [h9, Bool.and_false]], hM.bel⟩
       · have hb19' := of_decide_eq_false hb19
         refine seq_do (v := .bool false) hA rfl rfl rfl (does_bin rfl rfl (fun w => (bin_lss w).trans (by rw [hb19]))) ?_
         intro a hA
         refine seq_end ?_
         refine hK18 _ _ ?_
         refine wp_seq_k (fun K51 hK51 => ?_)
         refine wp_cond_false (hA.ev rfl) ?_
         refine wp_exit ?_
         refine hK13 _ _ ?_
         refine wp_seq_k (fun K52 hK52 => ?_)
         refine wp_region_lit ?_
         refine seq_do hA rfl rfl rfl (does_assign rfl) ?_
         intro a hA
         refine seq_end ?_
         refine hK52 _ _ ?_
         refine wp_ret ?_
         refine hret _ _ ?_
         refine ends (v := .bool true) hA rfl (.cons (res_tmp rfl) .nil) rfl ?_
         exact ⟨by rw [show soundS fs il ol = true from by unfold soundS; rw [decide_eq_true (by omega), ← hrun, rises_over (by omega)]; rfl], hM.bel⟩
theorem sound_as {w : World} {sF sI sO : Option Addr} {cF_ cI cO : Nat} {fs : List Fl} {il ol : List UInt8} {b : Bool} (hF : Rf w sF fs) (hn : fs.length ≤ 4398046511104) (h : soundS fs il ol = b) : Calls Try.prog 30 #[.agg #[.slice sF fs.length cF_, .slice sI il.length cI, .slice sO ol.length cO]] w fun e w' => e = .returned (.bool b) ∧ Below w.heap.size w w' := h ▸ sound_any hF hn
theorem place1_any {w0 w : World} {gn gf i : Nat} {nm : ByteArray} {sF : Option Addr} {cF_ : Nat} {fs : List Fl} (hF : Rf w0 sF fs) (hi : i < fs.length) (hM0 : Mg w0 w [.obj gn (.cells #[.string nm] 9), .obj gf (.cells #[.slice sF fs.length cF_] 35)]) : Calls Try.prog 75 #[.int .i64 ((i : Nat) : Int), .pointer (some ⟨gn, 0, none⟩), .pointer (some ⟨gf, 0, none⟩)] w fun e w' => e = .returned (.int .i64 (cF nm fs i)) ∧ Mg w0 w' [.obj gn (.cells #[.string nm] 9), .obj gf (.cells #[.slice sF fs.length cF_] 35)] := by
 have hM : Mg w0 w (.obj gn (.cells #[.string nm] 9) :: .obj gf (.cells #[.slice sF fs.length cF_] 35) :: []) := hM0
 refine walk_of (l := [(0, .int .i64 (((i : Nat) : Int))), (1, .pointer (some ⟨gn, 0, none⟩)), (2, .pointer (some ⟨gf, 0, none⟩))]) Try.func75 rfl Try.ntmps75 rfl rfl ?_
 intro Q hret hnorm hP a hA
 refine wp_seq_k (fun K1 hK1 => ?_)
 refine wp_region_lit ?_
 refine seq_do hA rfl rfl rfl (does_assign rfl) ?_
 intro a hA
 refine seq_end ?_
 refine hK1 _ _ ?_
 refine wp_seq_k (fun K2 hK2 => ?_)
 refine wp_draw (S := fun w1 => Mg w0 w1 (.obj gn (.cells #[.string nm] 9) :: .obj gf (.cells #[.slice sF fs.length cF_] 35) :: [])) (by kernel_rfl) ?_
 replace hM := hM.drew
 refine any_tk hA 0 rfl rfl rfl rfl hP (hM.sub (.cons_cons _ (.cons_cons _ (List.nil_sublist _)))) (fun w1 hM => m_load1 hM Wb_is1_9 rfl 0 rfl rfl) ?_
 intro a hA
 refine any_tk hA 1 rfl rfl rfl rfl hP (hM.sub (.cons_cons _ (.cons_cons _ (List.nil_sublist _)))) (fun w1 hM => m_load1 hM Wb_is1_35 rfl 1 rfl rfl) ?_
 intro a hA
 refine any_tk hA 2 rfl rfl rfl rfl hP (hM.sub (.cons_cons _ (.cons_cons _ (List.nil_sublist _)))) (fun w1 hM => does_move rfl) ?_
 intro a hA
 obtain ⟨fn3, fd4, hf9⟩ := file_get (fs := fs) (i := i) (by omega)
 obtain ⟨bf5, of6, sj7, cj8, hf10, hf11, hf12, hf13, hf14, hf15⟩ := hF.pos _ _ hf9
 refine any_tk (v := .pointer (some ⟨bf5, of6 + i * 2, none⟩)) hA 3 rfl rfl rfl rfl hP (hM.sub (.cons_cons _ (.cons_cons _ (List.nil_sublist _)))) (fun w1 hM => does_indexA Try.underlying35 (by kernel_rfl) rfl rfl rfl hf10 (show i < fs.length by omega)) ?_
 intro a hA
 refine any_tk (v := .pointer (some ⟨bf5, of6 + i * 2, none⟩)) hA 4 rfl rfl rfl rfl hP (hM.sub (.cons_cons _ (.cons_cons _ (List.nil_sublist _)))) (fun w1 hM => does_field Wb_fld_88_0 rfl rfl) ?_
 intro a hA
 refine any_tk (v := .string fn3) hA 5 rfl rfl rfl rfl hP (hM.sub (.cons_cons _ (.cons_cons _ (List.nil_sublist _)))) (fun w1 hM => m_loadR hM hf11 hf12 Wb_is1_9 rfl) ?_
 intro a hA
 refine any_one (by kernel_rfl) (op_call hA 6 rfl rfl rfl rfl (enters_func rfl rfl (fun w => by kernel_rfl)) ((show Calls Try.prog 76 #[.string nm, .string fn3] _ (fun e w' => e = .returned (.int .i64 (cmpN nm fn3)) ∧ w' = w.drew) from Try.strings_Compare nm fn3 _)) ?_)
 rintro _ w17 ⟨rfl, hb16⟩
 subst hb16
 refine ⟨_, rfl, (hM.sub (.cons_cons _ (.cons_cons _ (List.nil_sublist _)))), ?_⟩
 intro a hA
 refine any_tk hA 7 rfl rfl rfl rfl hP (hM.sub (.cons_cons _ (.cons_cons _ (List.nil_sublist _)))) (fun w1 hM => does_assign rfl) ?_
 intro a hA
 refine any_end (by kernel_rfl) ?_
 refine hK2 _ _ ?_
 refine wp_ret ?_
 refine hret _ _ ?_
 refine ends (v := .int .i64 (cmpN nm fn3)) hA rfl (.cons (res_tmp rfl) .nil) rfl ?_
 rw [cF_at hf9]
 exact ⟨rfl, hM⟩
/-- A function that tells how something compares with each of so many. -/
structure Cmps (P : Program) (w0 : World) (f : FuncId) (cs : List Value) (X : List Ck) (n : Nat) (c : Nat → Int) : Prop where
  inv : ∀ (us : Array Value) (w : World), (callFunc f us).run P w = .ok (.enter f us) w
  run : ∀ (i : Nat) (w : World), i < n → Mg w0 w X → Calls P f ([Value.int .i64 ((i : Nat) : Int)] ++ cs).toArray w (fun e w' => e = .returned (.int .i64 (c i)) ∧ Mg w0 w' X)
theorem place_cmps {w0 : World} {gn gf : Nat} {nm : ByteArray} {sF : Option Addr} {cF_ : Nat} {fs : List Fl} (hF : Rf w0 sF fs) : Cmps Try.prog w0 75 [.pointer (some ⟨gn, 0, none⟩), .pointer (some ⟨gf, 0, none⟩)] [.obj gn (.cells #[.string nm] 9), .obj gf (.cells #[.slice sF fs.length cF_] 35)] fs.length (cF nm fs) :=
  ⟨fun us w => by kernel_rfl, fun i w hi hM => place1_any hF hi hM⟩
theorem find_any {w0 w : World} {f : FuncId} {cs : List Value} {X : List Ck} {n : Nat} {c : Nat → Int} (hC : Cmps Try.prog w0 f cs X n c) (hn : n ≤ 4398046511104) (hM0 : Mg w0 w X) : Calls Try.prog 74 #[.int .i64 ((n : Nat) : Int), .func (.func f) #[] cs.toArray] w fun e w' => e = .returned (.tuple #[.int .i64 ((bsS c n : Nat) : Int), .bool (decide (bsS c n < n) && decide (c (bsS c n) = 0))]) ∧ Mg w0 w' X := by
 have hM : Mg w0 w (X) := hM0
 refine walk_of (l := [(0, .int .i64 (((n : Nat) : Int))), (1, .func (.func f) #[] cs.toArray)]) Try.func74 rfl Try.ntmps74 rfl rfl ?_
 intro Q hret hnorm hP a hA
 refine wp_seq_k (fun K1 hK1 => ?_)
 refine wp_region_lit ?_
 refine seq_do hA rfl rfl rfl (does_assign rfl) ?_
 intro a hA
 refine seq_do hA rfl rfl rfl (does_assign rfl) ?_
 intro a hA
 refine seq_end ?_
 refine hK1 _ _ ?_
 refine wp_seq_k (fun K2 hK2 => ?_)
 refine wp_region_lit ?_
 refine seq_do hA rfl rfl rfl (does_move rfl) ?_
 intro a hA
 refine seq_do hA rfl rfl rfl (does_assign rfl) ?_
 intro a hA
 refine seq_do hA rfl rfl rfl (does_assign rfl) ?_
 intro a hA
 refine seq_end ?_
 refine hK2 _ _ ?_
 refine wp_seq_k (fun K3 hK3 => ?_)
 refine wp_block ?_
 refine wp_loop_n (fun m_ a w1 => ∃ (i : Nat) (j : Nat), m_ = j - i ∧ (bsF c (j - i) i j = bsS c n ∧ i ≤ j ∧ j ≤ n) ∧ Sl a 35 [(0, .int .i64 (((n : Nat) : Int))), (1, .func (.func f) #[] cs.toArray), (4, .int .i64 (((i : Nat) : Int))), (5, .bool false), (6, .int .i64 (((j : Nat) : Int))), (8, .int .i64 (((n : Nat) : Int)))] ∧ Mg w0 w1 (X)) _ ⟨0, n, rfl, ⟨by rw [Nat.sub_zero]; rfl, Nat.zero_le _, Nat.le_refl _⟩, hA.keep _ ⟨rfl, rfl, rfl, rfl, rfl, rfl, trivial⟩, hM⟩ ?_
 clear hM hA
 rintro m_ a w4 ⟨i, j, rfl, hinv6, hA, hM⟩ K5 hK5
 obtain ⟨hrun, hi9, hj9⟩ := hinv6
 refine wp_seq_k (fun K7 hK7 => ?_)
 refine wp_seq_k (fun K8 hK8 => ?_)
 refine wp_region_lit ?_
 refine seq_do hA rfl rfl rfl (does_move rfl) ?_
 intro a hA
 refine seq_do hA rfl rfl rfl (does_move rfl) ?_
 intro a hA
 rcases Bool.eq_false_or_eq_true (decide (((i : Nat) : Int) < ((j : Nat) : Int))) with hb9 | hb9
 · have hb9' := of_decide_eq_true hb9
   refine seq_do (v := .bool true) hA rfl rfl rfl (does_bin rfl rfl (fun w => (bin_lss w).trans (by rw [hb9]))) ?_
   intro a hA
   refine seq_end ?_
   refine hK8 _ _ ?_
   refine wp_cond_true (hA.ev rfl) ?_
   refine wp_skip ?_
   refine hK7 _ _ ?_
   refine wp_block ?_
   refine wp_seq_k (fun K10 hK10 => ?_)
   refine wp_region_lit ?_
   refine seq_do hA rfl rfl rfl (does_move rfl) ?_
   intro a hA
   refine seq_do hA rfl rfl rfl (does_move rfl) ?_
   intro a hA
   refine seq_do (v := .int .i64 (((i + j : Nat) : Int))) hA rfl rfl rfl (does_bin rfl rfl (ar_add ((in_i64 (by omega) (by omega)).trans (by omega)))) ?_
   intro a hA
   refine seq_do (v := .int .u64 (((i + j : Nat) : Int))) hA rfl rfl rfl (does_convert rfl (ar_conv Try.underlying3 Try.underlying103 (in_u64 (by omega) (by omega)))) ?_
   intro a hA
   refine seq_do (v := .int .u64 ((((i + j) / 2 : Nat) : Int))) hA rfl rfl rfl (does_bin rfl rfl (ar_shr (n := 1) rfl rfl (show ((i + j : Nat) : Int) / 2 ^ 1 = (((i + j) / 2 : Nat) : Int) from by rw [show ((2 : Int) ^ 1) = 2 from rfl]; omega))) ?_
   intro a hA
   refine seq_do (v := .int .i64 ((((i + j) / 2 : Nat) : Int))) hA rfl rfl rfl (does_convert rfl (ar_conv Try.underlying103 Try.underlying3 (in_i64 (by omega) (by omega)))) ?_
   intro a hA
   refine seq_do hA rfl rfl rfl (does_assign rfl) ?_
   intro a hA
   refine seq_end ?_
   refine hK10 _ _ ?_
   refine wp_seq_k (fun K11 hK11 => ?_)
   refine wp_region_lit ?_
   refine seq_do hA rfl rfl rfl (does_move rfl) ?_
   intro a hA
   refine seq_do hA rfl rfl rfl (does_move rfl) ?_
   intro a hA
   refine seq_call hA rfl rfl rfl (enters_fn rfl rfl hC.inv) (hC.run ((i + j) / 2) _ (by omega) hM) ?_
   rintro _ w13 ⟨rfl, hM12⟩
   replace hM : Mg w0 w13 (X) := hM12
   refine ⟨_, rfl, ?_⟩
   intro a hA
   rcases Bool.eq_false_or_eq_true (decide (0 < c ((i + j) / 2))) with hb14 | hb14
   · have hb14' := of_decide_eq_true hb14
     refine seq_do (v := .bool true) hA rfl rfl rfl (does_bin rfl rfl (fun w => (bin_gtr w).trans (by rw [hb14]))) ?_
     intro a hA
     refine seq_end ?_
     refine hK11 _ _ ?_
     refine wp_cond_true (hA.ev rfl) ?_
     refine wp_region_lit ?_
     refine seq_do hA rfl rfl rfl (does_move rfl) ?_
     intro a hA
     refine seq_do (v := .int .i64 ((((i + j) / 2 + 1 : Nat) : Int))) hA rfl rfl rfl (does_bin rfl rfl (ar_add ((in_i64 (by omega) (by omega)).trans (by omega)))) ?_
     intro a hA
     refine seq_do hA rfl rfl rfl (does_assign rfl) ?_
     intro a hA
     refine seq_end ?_
     refine hK5 _ _ _ (by omega) ⟨(i + j) / 2 + 1, j, rfl, ⟨by rw [← hrun, bs_up (by omega) (of_decide_eq_true hb14)], by omega, by omega⟩, hA.keep _ ⟨rfl, rfl, rfl, rfl, rfl, rfl, trivial⟩, hM⟩
   · have hb14' := of_decide_eq_false hb14
     refine seq_do (v := .bool false) hA rfl rfl rfl (does_bin rfl rfl (fun w => (bin_gtr w).trans (by rw [hb14]))) ?_
     intro a hA
     refine seq_end ?_
     refine hK11 _ _ ?_
     refine wp_cond_false (hA.ev rfl) ?_
     refine wp_region_lit ?_
     refine seq_do hA rfl rfl rfl (does_move rfl) ?_
     intro a hA
     refine seq_do hA rfl rfl rfl (does_assign rfl) ?_
     intro a hA
     refine seq_end ?_
     refine hK5 _ _ _ (by omega) ⟨i, (i + j) / 2, rfl, ⟨by rw [← hrun, bs_down (by omega) (of_decide_eq_false hb14)], by omega, by omega⟩, hA.keep _ ⟨rfl, rfl, rfl, rfl, rfl, rfl, trivial⟩, hM⟩
 · have hb9' := of_decide_eq_false hb9
   refine seq_do (v := .bool false) hA rfl rfl rfl (does_bin rfl rfl (fun w => (bin_lss w).trans (by rw [hb9]))) ?_
   intro a hA
   refine seq_end ?_
   refine hK8 _ _ ?_
   refine wp_cond_false (hA.ev rfl) ?_
   refine wp_exit ?_
   refine hK3 _ _ ?_
   refine wp_seq_k (fun K15 hK15 => ?_)
   refine wp_region_lit ?_
   refine seq_do hA rfl rfl rfl (does_move rfl) ?_
   intro a hA
   refine seq_do hA rfl rfl rfl (does_move rfl) ?_
   intro a hA
   refine seq_do hA rfl rfl rfl (does_move rfl) ?_
   intro a hA
   rcases Bool.eq_false_or_eq_true (decide (((i : Nat) : Int) < ((n : Nat) : Int))) with hb16 | hb16
   · have hb16' := of_decide_eq_true hb16
     refine seq_do (v := .bool true) hA rfl rfl rfl (does_bin rfl rfl (fun w => (bin_lss w).trans (by rw [hb16]))) ?_
     intro a hA
     refine seq_do hA rfl rfl rfl (does_move rfl) ?_
     intro a hA
     refine seq_do hA rfl rfl rfl (does_move rfl) ?_
     intro a hA
     refine seq_do hA rfl rfl rfl (does_move rfl) ?_
     intro a hA
     refine seq_call hA rfl rfl rfl (enters_fn rfl rfl hC.inv) (hC.run (i) _ (by omega) hM) ?_
     rintro _ w18 ⟨rfl, hM17⟩
     replace hM : Mg w0 w18 (X) := hM17
     refine ⟨_, rfl, ?_⟩
     intro a hA
     rcases Bool.eq_false_or_eq_true ((c (i) == 0)) with hb19 | hb19
     · have hb19' := eq_of_beq hb19
       refine seq_do (v := .bool true) hA rfl rfl rfl (does_bin rfl rfl (fun w => (bin_eql w).trans (by rw [hb19]))) ?_
       intro a hA
       refine seq_do (v := .bool true) hA rfl rfl rfl (does_pick rfl rfl rfl rfl) ?_
       intro a hA
       refine seq_do hA rfl rfl rfl (does_assign rfl) ?_
       intro a hA
       refine seq_do hA rfl rfl rfl (does_assign rfl) ?_
       intro a hA
       refine seq_end ?_
       refine hK15 _ _ ?_
       refine wp_ret ?_
       refine hret _ _ ?_
       refine ends (v := .tuple #[.int .i64 (((i : Nat) : Int)), .bool true]) hA rfl (.cons (res_tmp rfl) (.cons (res_tmp rfl) .nil)) rfl ?_
       rw [bs_end (by omega)] at hrun
       exact ⟨by rw [← hrun, show (decide (i < n) && decide (c i = 0)) = true from by rw [decide_eq_true (show i < n by omega), decide_eq_true (show c i = 0 by omega)]; rfl], hM⟩
     · have hb19' := ne_of_beq_false hb19
       refine seq_do (v := .bool false) hA rfl rfl rfl (does_bin rfl rfl (fun w => (bin_eql w).trans (by rw [hb19]))) ?_
       intro a hA
       refine seq_do (v := .bool false) hA rfl rfl rfl (does_pick rfl rfl rfl rfl) ?_
       intro a hA
       refine seq_do hA rfl rfl rfl (does_assign rfl) ?_
       intro a hA
       refine seq_do hA rfl rfl rfl (does_assign rfl) ?_
       intro a hA
       refine seq_end ?_
       refine hK15 _ _ ?_
       refine wp_ret ?_
       refine hret _ _ ?_
       refine ends (v := .tuple #[.int .i64 (((i : Nat) : Int)), .bool false]) hA rfl (.cons (res_tmp rfl) (.cons (res_tmp rfl) .nil)) rfl ?_
       rw [bs_end (by omega)] at hrun
       exact ⟨by rw [← hrun, show (decide (i < n) && decide (c i = 0)) = false from by first | (rw [decide_eq_false (show ¬ i < n by omega)]; rfl) | (rw [decide_eq_false (show ¬ c i = 0 by omega), Bool.and_false])], hM⟩
   · have hb16' := of_decide_eq_false hb16
     refine seq_do (v := .bool false) hA rfl rfl rfl (does_bin rfl rfl (fun w => (bin_lss w).trans (by rw [hb16]))) ?_
     intro a hA
     refine seq_do hA rfl rfl rfl (does_move rfl) ?_
     intro a hA
     refine seq_skip hA rfl rfl rfl ?_
     intro a hA
     refine seq_skip hA rfl rfl rfl ?_
     intro a hA
     refine seq_skip hA rfl rfl rfl ?_
     intro a hA
     refine seq_skip hA rfl rfl rfl ?_
     intro a hA
     refine seq_do (v := .bool false) hA rfl rfl rfl (does_pick rfl rfl rfl rfl) ?_
     intro a hA
     refine seq_do hA rfl rfl rfl (does_assign rfl) ?_
     intro a hA
     refine seq_do hA rfl rfl rfl (does_assign rfl) ?_
     intro a hA
     refine seq_end ?_
     refine hK15 _ _ ?_
     refine wp_ret ?_
     refine hret _ _ ?_
     refine ends (v := .tuple #[.int .i64 (((i : Nat) : Int)), .bool false]) hA rfl (.cons (res_tmp rfl) (.cons (res_tmp rfl) .nil)) rfl ?_
     rw [bs_end (by omega)] at hrun
     exact ⟨by rw [← hrun, show (decide (i < n) && decide (c i = 0)) = false from by first | (rw [decide_eq_false (show ¬ i < n by omega)]; rfl) | (rw [decide_eq_false (show ¬ c i = 0 by omega), Bool.and_false])], hM⟩
theorem place_any {w : World} {nm : ByteArray} {sF : Option Addr} {cF_ : Nat} {fs : List Fl} (hF : Rf w sF fs) (hn : fs.length ≤ 4398046511104) : Calls Try.prog 52 #[.slice sF fs.length cF_, .string nm] w fun e w' => e = .returned (.tuple #[.int .i64 ((plI nm fs : Nat) : Int), .bool (plB nm fs)]) ∧ Below w.heap.size w w' := by
 have hM : Mg w w ([]) := Mg.start w
 refine walk_of (l := [(0, .slice sF fs.length cF_), (1, .string nm)]) Try.func52 rfl Try.ntmps52 rfl rfl ?_
 intro Q hret hnorm hP a hA
 refine wp_seq_k (fun K1 hK1 => ?_)
 refine wp_region_lit ?_
 refine s_new (vs := [.slice sF fs.length cF_]) (t := 35) hA hM rfl rfl rfl (fun g => .pointer (some ⟨g, 0, none⟩)) (does_box rfl rfl) (by decide) ?_
 intro g2 w3 hM a hA
 refine s_new (vs := [.string nm]) (t := 9) hA hM rfl rfl rfl (fun g => .pointer (some ⟨g, 0, none⟩)) (does_box rfl rfl) (by decide) ?_
 intro g4 w5 hM a hA
 refine seq_do hA rfl rfl rfl (does_assign rfl) ?_
 intro a hA
 refine seq_do hA rfl rfl rfl (does_assign rfl) ?_
 intro a hA
 refine seq_end ?_
 refine hK1 _ _ ?_
 refine wp_seq_k (fun K6 hK6 => ?_)
 refine wp_region_lit ?_
 refine seq_do hA rfl rfl rfl (m_load1 hM Wb_is1_35 rfl 1 rfl rfl) ?_
 intro a hA
 refine seq_do (v := .int .i64 (((fs.length : Nat) : Int))) hA rfl rfl rfl (does_len Try.underlying35 rfl) ?_
 intro a hA
 refine seq_do (v := .func (.func 75) #[] [.pointer (some ⟨g4, 0, none⟩), .pointer (some ⟨g2, 0, none⟩)].toArray) hA rfl rfl rfl (does_makeFunc rfl) ?_
 intro a hA
 refine seq_call hA rfl rfl rfl (enters_func rfl rfl (fun w => by kernel_rfl)) (find_any (place_cmps (gn := g4) (gf := g2) (nm := nm) (cF_ := cF_) hF) hn hM) ?_
 rintro _ w8 ⟨rfl, hM7⟩
 replace hM : Mg w w8 (.obj g4 (.cells #[.string nm] 9) :: .obj g2 (.cells #[.slice sF fs.length cF_] 35) :: []) := hM7
 refine ⟨_, rfl, ?_⟩
 intro a hA
 refine seq_do (v := .int .i64 (((plI nm fs : Nat) : Int))) hA rfl rfl rfl (does_extract (vs := [.int .i64 (((plI nm fs : Nat) : Int)), .bool (plB nm fs)]) rfl rfl) ?_
 intro a hA
 refine seq_do (v := .bool (plB nm fs)) hA rfl rfl rfl (does_extract (vs := [.int .i64 (((plI nm fs : Nat) : Int)), .bool (plB nm fs)]) rfl rfl) ?_
 intro a hA
 refine seq_do hA rfl rfl rfl (does_assign rfl) ?_
 intro a hA
 refine seq_do hA rfl rfl rfl (does_assign rfl) ?_
 intro a hA
 refine seq_end ?_
 refine hK6 _ _ ?_
 refine wp_ret ?_
 refine hret _ _ ?_
 refine ends (v := .tuple #[.int .i64 (((plI nm fs : Nat) : Int)), .bool (plB nm fs)]) hA rfl (.cons (res_tmp rfl) (.cons (res_tmp rfl) .nil)) rfl ?_
 exact ⟨rfl, hM.bel⟩
end Go.Proofs.Ytcjgjbaadmohbaa
