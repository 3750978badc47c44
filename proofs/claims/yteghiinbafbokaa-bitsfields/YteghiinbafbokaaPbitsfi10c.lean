/- Walks of the document's shifts, of lengths, of opposites less one, and of questions of sameness. How many bits of a number are 1. Walks of how many bits are 1. Rows of bits put together word by word. Walks of rows of bits put together. Numbers put together bit by bit. -/
import Derived.Test.YteghiinbafbokaaPbitsfi10b
import Derived.Test.YteghiinbafbokaaBits
import Derived.Test.YteghiinbafbokaaBiTrim
namespace Go.Proofs.Yteghiinbafbokaa
open Go.RowKit
set_option linter.unusedVariables false
set_option linter.unusedSimpArgs false
set_option maxRecDepth 100000

theorem rzero_any (w : World) : Calls Try.prog 40 #[] w (AnsF w false [] [1]) := by
  have hS : St w w [] [] [] := St.start w
  refine walk_of (l := []) Try.func40 rfl Try.ntmps40 rfl rfl ?_
  intro Q hret hnorm hP a hA
  refine wp_seq_k (fun K1 hK1 => ?_)
  refine wp_region_lit ?_
  refine seq_new (vs := [.bool false, .slice none 0 0, .slice none 0 0]) (t := 24) hA hS rfl rfl rfl (fun g => .pointer (some ⟨g, 0, none⟩)) (does_alloc (z := .agg #[.bool false, .slice none 0 0, .slice none 0 0]) (by kernel_rfl) rfl) rfl ?_
  intro g2 w3 hS a hA
  refine seq_end ?_
  refine hK1 _ _ ?_
  refine wp_seq_k (fun K4 hK4 => ?_)
  refine wp_region_lit ?_
  refine seq_newU (us := [1]) (t := 41) (m := 1) hA hS rfl rfl rfl (does_buildSlice rfl (by kernel_rfl)) (by simp [Dig]) ?_
  intro g5 w6 hS a hA
  refine seq_do (v := .agg #[.bool false, .slice none 0 0, .slice (some ⟨g5, 0, none⟩) 1 1]) hA rfl rfl rfl (does_build rfl (fun w => by kernel_rfl)) ?_
  intro a hA
  refine seq_store (us := [.bool false, .slice none 0 0, .slice (some ⟨g5, 0, none⟩) 1 1]) hA hS rfl rfl (sets_store (cs := [.bool false, .slice none 0 0, .slice (some ⟨g5, 0, none⟩) 1 1]) rfl rfl rfl (by kernel_rfl) hS 0 rfl rfl rfl) 0 rfl rfl rfl rfl ?_
  intro w7 hS
  refine seq_end ?_
  refine hK4 _ _ ?_
  refine wp_ret ?_
  refine hret _ _ ?_
  refine ends (v := .agg #[.bool false, .slice none 0 0, .slice (some ⟨g5, 0, none⟩) 1 1]) hA rfl (.cons (res_cell hS isS_24 rfl 0 rfl (cs := [.bool false, .slice none 0 0, .slice (some ⟨g5, 0, none⟩) 1 1]) rfl rfl) .nil) rfl ?_
  exact ⟨none, 0, some ⟨g5, 0, none⟩, 1, rfl, (Sc.none _), ⟨(hS.rd 0 rfl), (fun h => by cases h), (Nat.le_refl _)⟩, hS.bel⟩
theorem rshiftE_any {w : World} {q : Q6} {a1 a2 a3 a4 : Option Addr} {ac1 ac2 ac3 ac4 : Nat} (ha : Nm w q a1 ac1 a2 ac2 a3 ac3 a4 ac4) (hl : LenQ q) {n : Int} (hw : (want1 q != 0) = true) : Calls Try.prog 15 #[numV q a1 ac1 a2 ac2 a3 ac3 a4 ac4, .int .i64 n] w (AnsN w (shiftQ q n)) := by
  have hS : St w w [] [(a4, q.q2), (a3, q.t2), (a2, q.q1), (a1, q.t1)] [] := ((((St.start w).addR ha.s1.rd).addR ha.s2.rd).addR ha.s3.rd).addR ha.s4.rd
  refine walk_of (l := [(0, .agg #[.bool q.b1, .slice a1 q.t1.length ac1, .slice a2 q.q1.length ac2, .bool q.b2, .slice a3 q.t2.length ac3, .slice a4 q.q2.length ac4]), (1, .int .i64 n)]) Try.func15 rfl Try.ntmps15 rfl rfl ?_
  intro Q hret hnorm hP a hA
  refine wp_seq_k (fun K1 hK1 => ?_)
  refine wp_region_lit ?_
  refine seq_new (vs := [.bool q.b1, .slice a1 q.t1.length ac1, .slice a2 q.q1.length ac2, .bool q.b2, .slice a3 q.t2.length ac3, .slice a4 q.q2.length ac4]) (t := 26) hA hS rfl rfl rfl (fun g => .pointer (some ⟨g, 0, none⟩)) (does_box rfl rfl) rfl ?_
  intro g2 w3 hS a hA
  refine seq_new (vs := [.bool false, .slice none 0 0, .slice none 0 0, .bool false, .slice none 0 0, .slice none 0 0]) (t := 26) hA hS rfl rfl rfl (fun g => .pointer (some ⟨g, 0, none⟩)) (does_alloc (z := .agg #[.bool false, .slice none 0 0, .slice none 0 0, .bool false, .slice none 0 0, .slice none 0 0]) (by kernel_rfl) rfl) rfl ?_
  intro g4 w5 hS a hA
  refine seq_do hA rfl rfl rfl (does_assign rfl) ?_
  intro a hA
  refine seq_end ?_
  refine hK1 _ _ ?_
  refine wp_seq_k (fun K6 hK6 => ?_)
  refine wp_region_lit ?_
  refine seq_do (v := .agg #[.bool q.b1, .slice a1 q.t1.length ac1, .slice a2 q.q1.length ac2, .bool q.b2, .slice a3 q.t2.length ac3, .slice a4 q.q2.length ac4]) hA rfl rfl rfl (does_loadS hS isS_26 rfl 1 rfl (cs := [.bool q.b1, .slice a1 q.t1.length ac1, .slice a2 q.q1.length ac2, .bool q.b2, .slice a3 q.t2.length ac3, .slice a4 q.q2.length ac4]) rfl rfl) ?_
  intro a hA
  refine seq_new (vs := [.bool q.b1, .slice a1 q.t1.length ac1, .slice a2 q.q1.length ac2, .bool q.b2, .slice a3 q.t2.length ac3, .slice a4 q.q2.length ac4]) (t := 26) hA hS rfl rfl rfl (fun g => .slice (some ⟨g, 0, none⟩) 1 1) (does_buildSlice rfl (by kernel_rfl)) rfl ?_
  intro g7 w8 hS a hA
  refine seq_call hA rfl rfl rfl (enters_func  rfl rfl (fun w => by kernel_rfl)) (rcheck1_any (show Nm _ q a1 ac1 a2 ac2 a3 ac3 a4 ac4 from ⟨⟨(hS.rd 3 rfl), ha.s1.nil, ha.s1.cap⟩, ⟨(hS.rd 2 rfl), ha.s2.nil, ha.s2.cap⟩, ⟨(hS.rd 1 rfl), ha.s3.nil, ha.s3.cap⟩, ⟨(hS.rd 0 rfl), ha.s4.nil, ha.s4.cap⟩⟩) hl (hS.blk 0 rfl) rfl) ?_
  rintro _ w10 ⟨rfl, hb9⟩
  replace hS := hS.call hb9
  refine ⟨_, rfl, ?_⟩
  intro a hA
  refine seq_do hA rfl rfl rfl (does_assign rfl) ?_
  intro a hA
  refine seq_end ?_
  refine hK6 _ _ ?_
  refine wp_seq_k (fun K11 hK11 => ?_)
  refine wp_seq_k (fun K12 hK12 => ?_)
  refine wp_region_lit ?_
  refine seq_do hA rfl rfl rfl (does_move rfl) ?_
  intro a hA
  refine seq_do (v := .bool true) hA rfl rfl rfl (does_bin rfl rfl (fun w => (bin_neq w).trans (by rw [show ((want1 q != 0)) = true from hw]))) ?_
  intro a hA
  refine seq_end ?_
  refine hK12 _ _ ?_
  refine wp_cond_true (hA.ev rfl) ?_
  refine wp_seq_k (fun K13 hK13 => ?_)
  refine wp_region_lit ?_
  refine seq_do (v := .agg #[.bool false, .slice none 0 0, .slice none 0 0, .bool false, .slice none 0 0, .slice none 0 0]) hA rfl rfl rfl (does_build rfl (fun w => by kernel_rfl)) ?_
  intro a hA
  refine seq_do hA rfl rfl rfl (does_move rfl) ?_
  intro a hA
  refine seq_store (us := [.bool false, .slice none 0 0, .slice none 0 0, .bool false, .slice none 0 0, .slice none 0 0]) hA hS rfl rfl (sets_store (cs := [.bool false, .slice none 0 0, .slice none 0 0, .bool false, .slice none 0 0, .slice none 0 0]) rfl rfl rfl (by kernel_rfl) hS 1 rfl rfl rfl) 1 rfl rfl rfl rfl ?_
  intro w14 hS
  refine seq_do hA rfl rfl rfl (does_assign rfl) ?_
  intro a hA
  refine seq_end ?_
  refine hK13 _ _ ?_
  refine wp_ret ?_
  refine hret _ _ ?_
  refine ends (v := .tuple #[.agg #[.bool false, .slice none 0 0, .slice none 0 0, .bool false, .slice none 0 0, .slice none 0 0], .int .i64 (want1 q)]) hA rfl (.cons (res_cell hS isS_26 rfl 1 rfl (cs := [.bool false, .slice none 0 0, .slice none 0 0, .bool false, .slice none 0 0, .slice none 0 0]) rfl rfl) (.cons (res_tmp rfl) .nil)) rfl ?_
  rw [shiftQ_err hw]
  exact ⟨none, 0, none, 0, none, 0, none, 0, rfl, ⟨(Sc.none _), (Sc.none _), (Sc.none _), (Sc.none _)⟩, hS.bel⟩
theorem rshiftW_any {w : World} {b : Bool} {x : Nat} {a1 a2 a3 a4 : Option Addr} {ac1 ac2 ac3 ac4 : Nat} (ha : Nm w (Q6.whole b x) a1 ac1 a2 ac2 a3 ac3 a4 ac4) (hl : LenQ (Q6.whole b x)) {n : Int} (hw : want1 (Q6.whole b x) = 0) (hx : (words x).length ≤ 512) (hb : b.toNat ≤ x) : Calls Try.prog 15 #[numV (Q6.whole b x) a1 ac1 a2 ac2 a3 ac3 a4 ac4, .int .i64 n] w (AnsN w (shiftQ (Q6.whole b x) n)) := by
  cases b
  · have hS : St w w [] [(a4, [1]), (a3, []), (a2, [1]), (a1, words x)] [] := ((((St.start w).addR ha.s1.rd).addR ha.s2.rd).addR ha.s3.rd).addR ha.s4.rd
    refine walk_of (l := [(0, .agg #[.bool false, .slice a1 ((words x).length) ac1, .slice a2 1 ac2, .bool false, .slice a3 0 ac3, .slice a4 1 ac4]), (1, .int .i64 n)]) Try.func15 rfl Try.ntmps15 rfl rfl ?_
    intro Q hret hnorm hP a hA
    refine wp_seq_k (fun K1 hK1 => ?_)
    refine wp_region_lit ?_
    refine seq_new (vs := [.bool false, .slice a1 ((words x).length) ac1, .slice a2 1 ac2, .bool false, .slice a3 0 ac3, .slice a4 1 ac4]) (t := 26) hA hS rfl rfl rfl (fun g => .pointer (some ⟨g, 0, none⟩)) (does_box rfl rfl) rfl ?_
    intro g2 w3 hS a hA
    refine seq_new (vs := [.bool false, .slice none 0 0, .slice none 0 0, .bool false, .slice none 0 0, .slice none 0 0]) (t := 26) hA hS rfl rfl rfl (fun g => .pointer (some ⟨g, 0, none⟩)) (does_alloc (z := .agg #[.bool false, .slice none 0 0, .slice none 0 0, .bool false, .slice none 0 0, .slice none 0 0]) (by kernel_rfl) rfl) rfl ?_
    intro g4 w5 hS a hA
    refine seq_do hA rfl rfl rfl (does_assign rfl) ?_
    intro a hA
    refine seq_end ?_
    refine hK1 _ _ ?_
    refine wp_seq_k (fun K6 hK6 => ?_)
    refine wp_region_lit ?_
    refine seq_do (v := .agg #[.bool false, .slice a1 ((words x).length) ac1, .slice a2 1 ac2, .bool false, .slice a3 0 ac3, .slice a4 1 ac4]) hA rfl rfl rfl (does_loadS hS isS_26 rfl 1 rfl (cs := [.bool false, .slice a1 ((words x).length) ac1, .slice a2 1 ac2, .bool false, .slice a3 0 ac3, .slice a4 1 ac4]) rfl rfl) ?_
    intro a hA
    refine seq_new (vs := [.bool false, .slice a1 ((words x).length) ac1, .slice a2 1 ac2, .bool false, .slice a3 0 ac3, .slice a4 1 ac4]) (t := 26) hA hS rfl rfl rfl (fun g => .slice (some ⟨g, 0, none⟩) 1 1) (does_buildSlice rfl (by kernel_rfl)) rfl ?_
    intro g7 w8 hS a hA
    refine seq_call hA rfl rfl rfl (enters_func  rfl rfl (fun w => by kernel_rfl)) (rcheck1_any (show Nm _ (Q6.whole false x) a1 ac1 a2 ac2 a3 ac3 a4 ac4 from ⟨⟨(hS.rd 3 rfl), ha.s1.nil, ha.s1.cap⟩, ⟨(hS.rd 2 rfl), ha.s2.nil, ha.s2.cap⟩, ⟨(hS.rd 1 rfl), ha.s3.nil, ha.s3.cap⟩, ⟨(hS.rd 0 rfl), ha.s4.nil, ha.s4.cap⟩⟩) hl (hS.blk 0 rfl) hw) ?_
    rintro _ w10 ⟨rfl, hb9⟩
    replace hS := hS.call hb9
    refine ⟨_, rfl, ?_⟩
    intro a hA
    refine seq_do hA rfl rfl rfl (does_assign rfl) ?_
    intro a hA
    refine seq_end ?_
    refine hK6 _ _ ?_
    refine wp_seq_k (fun K11 hK11 => ?_)
    refine wp_seq_k (fun K12 hK12 => ?_)
    refine wp_region_lit ?_
    refine seq_do hA rfl rfl rfl (does_move rfl) ?_
    intro a hA
    refine seq_do (v := .bool false) hA rfl rfl rfl (does_bin rfl rfl (fun w => by kernel_rfl)) ?_
    intro a hA
    refine seq_end ?_
    refine hK12 _ _ ?_
    refine wp_cond_false (hA.ev rfl) ?_
    refine wp_skip ?_
    refine hK11 _ _ ?_
    refine wp_seq_k (fun K13 hK13 => ?_)
    refine wp_seq_k (fun K14 hK14 => ?_)
    refine wp_region_lit ?_
    refine seq_do hA rfl rfl rfl (does_move rfl) ?_
    intro a hA
    rcases Bool.eq_false_or_eq_true (decide (n < -16384)) with hb15 | hb15
    · have hb15' := of_decide_eq_true hb15
      refine seq_do (v := .bool true) hA rfl rfl rfl (does_bin rfl rfl (fun w => (bin_lss w).trans (by rw [hb15]))) ?_
      intro a hA
      refine seq_do hA rfl rfl rfl (does_move rfl) ?_
      intro a hA
      refine seq_skip hA rfl rfl rfl ?_
      intro a hA
      refine seq_skip hA rfl rfl rfl ?_
      intro a hA
      refine seq_do (v := .bool true) hA rfl rfl rfl (does_pick rfl rfl rfl rfl) ?_
      intro a hA
      refine seq_end ?_
      refine hK14 _ _ ?_
      refine wp_cond_true (hA.ev rfl) ?_
      refine wp_seq_k (fun K16 hK16 => ?_)
      refine wp_region_lit ?_
      refine seq_do (v := .agg #[.bool false, .slice none 0 0, .slice none 0 0, .bool false, .slice none 0 0, .slice none 0 0]) hA rfl rfl rfl (does_build rfl (fun w => by kernel_rfl)) ?_
      intro a hA
      refine seq_store (us := [.bool false, .slice none 0 0, .slice none 0 0, .bool false, .slice none 0 0, .slice none 0 0]) hA hS rfl rfl (sets_store (cs := [.bool false, .slice none 0 0, .slice none 0 0, .bool false, .slice none 0 0, .slice none 0 0]) rfl rfl rfl (by kernel_rfl) hS 1 rfl rfl rfl) 1 rfl rfl rfl rfl ?_
      intro w17 hS
      refine seq_do hA rfl rfl rfl (does_assign rfl) ?_
      intro a hA
      refine seq_end ?_
      refine hK16 _ _ ?_
      refine wp_ret ?_
      refine hret _ _ ?_
      refine ends (v := .tuple #[.agg #[.bool false, .slice none 0 0, .slice none 0 0, .bool false, .slice none 0 0, .slice none 0 0], .int .i64 1]) hA rfl (.cons (res_cell hS isS_26 rfl 1 rfl (cs := [.bool false, .slice none 0 0, .slice none 0 0, .bool false, .slice none 0 0, .slice none 0 0]) rfl rfl) (.cons (res_tmp rfl) .nil)) rfl ?_
      rw [shiftQ_arg hw (by omega)]
      exact ⟨none, 0, none, 0, none, 0, none, 0, rfl, ⟨(Sc.none _), (Sc.none _), (Sc.none _), (Sc.none _)⟩, hS.bel⟩
    · have hb15' := of_decide_eq_false hb15
      refine seq_do (v := .bool false) hA rfl rfl rfl (does_bin rfl rfl (fun w => (bin_lss w).trans (by rw [hb15]))) ?_
      intro a hA
      refine seq_do hA rfl rfl rfl (does_move rfl) ?_
      intro a hA
      refine seq_do hA rfl rfl rfl (does_move rfl) ?_
      intro a hA
      rcases Bool.eq_false_or_eq_true (decide (16384 < n)) with hb18 | hb18
      · have hb18' := of_decide_eq_true hb18
        refine seq_do (v := .bool true) hA rfl rfl rfl (does_bin rfl rfl (fun w => (bin_gtr w).trans (by rw [hb18]))) ?_
        intro a hA
        refine seq_do (v := .bool true) hA rfl rfl rfl (does_pick rfl rfl rfl rfl) ?_
        intro a hA
        refine seq_end ?_
        refine hK14 _ _ ?_
        refine wp_cond_true (hA.ev rfl) ?_
        refine wp_seq_k (fun K19 hK19 => ?_)
        refine wp_region_lit ?_
        refine seq_do (v := .agg #[.bool false, .slice none 0 0, .slice none 0 0, .bool false, .slice none 0 0, .slice none 0 0]) hA rfl rfl rfl (does_build rfl (fun w => by kernel_rfl)) ?_
        intro a hA
        refine seq_store (us := [.bool false, .slice none 0 0, .slice none 0 0, .bool false, .slice none 0 0, .slice none 0 0]) hA hS rfl rfl (sets_store (cs := [.bool false, .slice none 0 0, .slice none 0 0, .bool false, .slice none 0 0, .slice none 0 0]) rfl rfl rfl (by kernel_rfl) hS 1 rfl rfl rfl) 1 rfl rfl rfl rfl ?_
        intro w20 hS
        refine seq_do hA rfl rfl rfl (does_assign rfl) ?_
        intro a hA
        refine seq_end ?_
        refine hK19 _ _ ?_
        refine wp_ret ?_
        refine hret _ _ ?_
        refine ends (v := .tuple #[.agg #[.bool false, .slice none 0 0, .slice none 0 0, .bool false, .slice none 0 0, .slice none 0 0], .int .i64 1]) hA rfl (.cons (res_cell hS isS_26 rfl 1 rfl (cs := [.bool false, .slice none 0 0, .slice none 0 0, .bool false, .slice none 0 0, .slice none 0 0]) rfl rfl) (.cons (res_tmp rfl) .nil)) rfl ?_
        rw [shiftQ_arg hw (by omega)]
        exact ⟨none, 0, none, 0, none, 0, none, 0, rfl, ⟨(Sc.none _), (Sc.none _), (Sc.none _), (Sc.none _)⟩, hS.bel⟩
      · have hb18' := of_decide_eq_false hb18
        refine seq_do (v := .bool false) hA rfl rfl rfl (does_bin rfl rfl (fun w => (bin_gtr w).trans (by rw [hb18]))) ?_
        intro a hA
        refine seq_do (v := .bool false) hA rfl rfl rfl (does_pick rfl rfl rfl rfl) ?_
        intro a hA
        refine seq_end ?_
        refine hK14 _ _ ?_
        refine wp_cond_false (hA.ev rfl) ?_
        refine wp_skip ?_
        refine hK13 _ _ ?_
        refine wp_seq_k (fun K21 hK21 => ?_)
        have hJ42 : ∀ a w1, (∃ (J32g : Nat) (J33g : Nat) (J34 : Option Addr) (J35 : Nat) (J36 : Option Addr) (J37 : Nat), Sl a 68 [(0, .agg #[.bool false, .slice a1 ((words x).length) ac1, .slice a2 1 ac2, .bool false, .slice a3 0 ac3, .slice a4 1 ac4]), (1, .int .i64 n), (2, .pointer (some ⟨g2, 0, none⟩)), (4, .pointer (some ⟨g4, 0, none⟩)), (5, .int .i64 0), (6, .int .i64 0), (7, .pointer (some ⟨J32g, 0, none⟩)), (9, .agg #[.bool false, .slice a1 ((words x).length) ac1, .slice a2 1 ac2, .bool false, .slice a3 0 ac3, .slice a4 1 ac4]), (10, .slice (some ⟨g7, 0, none⟩) 1 1), (11, .int .i64 0), (12, .int .i64 0), (13, .bool false), (16, .int .i64 n), (17, .bool false), (18, .bool false), (19, .int .i64 n), (20, .bool false), (21, .bool false), (23, .pointer (some ⟨g2, 0, none⟩)), (24, .pointer (some ⟨g2, 0, none⟩)), (25, .bool false), (26, .slice (some ⟨J33g, 0, none⟩) 1 1), (27, .agg #[.bool false, .slice none 0 0, .slice (some ⟨J33g, 0, none⟩) 1 1]), (28, .agg #[.bool false, .slice J34 0 J35, .slice J36 1 J37]), (29, .agg #[.bool false, .slice none 0 0, .slice (some ⟨J33g, 0, none⟩) 1 1, .bool false, .slice J34 0 J35, .slice J36 1 J37])] ∧ St w w1 [(J32g, [.bool false, .slice none 0 0, .slice (some ⟨J33g, 0, none⟩) 1 1, .bool false, .slice J34 0 J35, .slice J36 1 J37]), (g7, [.bool false, .slice a1 ((words x).length) ac1, .slice a2 1 ac2, .bool false, .slice a3 0 ac3, .slice a4 1 ac4]), (g4, [.bool false, .slice none 0 0, .slice none 0 0, .bool false, .slice none 0 0, .slice none 0 0]), (g2, [.bool false, .slice a1 ((words x).length) ac1, .slice a2 1 ac2, .bool false, .slice a3 0 ac3, .slice a4 1 ac4])] [(J36, [1]), (J34, []), (some ⟨J33g, 0, none⟩, [1]), (a4, [1]), (a3, []), (a2, [1]), (a1, words x)] [] ∧ (J36 = none → J37 = 0) ∧ ([1] : List Nat).length ≤ J37 ∧ (J34 = none → J35 = 0) ∧ ([] : List Nat).length ≤ J35) → K21 a w1 := by
          clear hA hS
          rintro a w43 ⟨J32g, J33g, J34, J35, J36, J37, hA, hS, hn38, hc39, hn40, hc41⟩
          refine hK21 _ _ ?_
          refine wp_seq_k (fun K44 hK44 => ?_)
          refine wp_seq_k (fun K45 hK45 => ?_)
          refine wp_region_lit ?_
          refine seq_do hA rfl rfl rfl (does_move rfl) ?_
          intro a hA
          rcases Bool.eq_false_or_eq_true (decide (0 ≤ n)) with hb46 | hb46
          · have hb46' := of_decide_eq_true hb46
            refine seq_do (v := .bool true) hA rfl rfl rfl (does_bin rfl rfl (fun w => (bin_geq w).trans (by rw [hb46]))) ?_
            intro a hA
            refine seq_end ?_
            refine hK45 _ _ ?_
            refine wp_cond_true (hA.ev rfl) ?_
            refine wp_seq_k (fun K47 hK47 => ?_)
            refine wp_region_lit ?_
            refine seq_do (v := .pointer (some ⟨g2, 0, none⟩)) hA rfl rfl rfl (does_field fld_26_0 rfl rfl) ?_
            intro a hA
            refine seq_do (v := .pointer (some ⟨g2, 1, none⟩)) hA rfl rfl rfl (does_field fld_24_1 rfl rfl) ?_
            intro a hA
            refine seq_do hA rfl rfl rfl (does_load1 hS is1_22 rfl 3 rfl rfl) ?_
            intro a hA
            refine seq_do hA rfl rfl rfl (does_move rfl) ?_
            intro a hA
            refine seq_call hA rfl rfl rfl (enters_func  rfl rfl (fun w => by kernel_rfl)) (rupI_any _ (hS.rd 6 rfl) (by omega) (by omega) (by omega)) ?_
            rintro _ w52 ⟨ro48, rc49, rfl, ho50, hb51⟩
            replace hS := hS.call hb51
            replace hS := hS.addR ho50.rd
            refine ⟨_, rfl, ?_⟩
            intro a hA
            refine seq_do (v := .pointer (some ⟨J32g, 0, none⟩)) hA rfl rfl rfl (does_field fld_26_0 rfl rfl) ?_
            intro a hA
            refine seq_do (v := .pointer (some ⟨J32g, 1, none⟩)) hA rfl rfl rfl (does_field fld_24_1 rfl rfl) ?_
            intro a hA
            refine seq_store (us := [.bool false, .slice ro48 ((words (x * 2 ^ n.toNat)).length) rc49, .slice (some ⟨J33g, 0, none⟩) 1 1, .bool false, .slice J34 0 J35, .slice J36 1 J37]) hA hS rfl rfl (sets_store (cs := [.slice ro48 ((words (x * 2 ^ n.toNat)).length) rc49]) rfl rfl rfl (by kernel_rfl) hS 0 rfl rfl rfl) 0 rfl rfl rfl rfl ?_
            intro w53 hS
            refine seq_end ?_
            refine hK47 _ _ ?_
            refine wp_seq_k (fun K54 hK54 => ?_)
            refine wp_seq_k (fun K55 hK55 => ?_)
            refine wp_region_lit ?_
            refine seq_do (v := .pointer (some ⟨J32g, 0, none⟩)) hA rfl rfl rfl (does_field fld_26_0 rfl rfl) ?_
            intro a hA
            refine seq_do (v := .pointer (some ⟨J32g, 1, none⟩)) hA rfl rfl rfl (does_field fld_24_1 rfl rfl) ?_
            intro a hA
            refine seq_do hA rfl rfl rfl (does_load1 hS is1_22 rfl 0 rfl rfl) ?_
            intro a hA
            refine seq_do (v := .int .i64 ((((words (x * 2 ^ n.toNat)).length : Nat) : Int))) hA rfl rfl rfl (does_len Try.underlying22 rfl) ?_
            intro a hA
            rcases Bool.eq_false_or_eq_true (decide (512 < (((words (x * 2 ^ n.toNat)).length : Nat) : Int))) with hb56 | hb56
            · have hb56' := of_decide_eq_true hb56
              refine seq_do (v := .bool true) hA rfl rfl rfl (does_bin rfl rfl (fun w => (bin_gtr w).trans (by rw [hb56]))) ?_
              intro a hA
              refine seq_end ?_
              refine hK55 _ _ ?_
              refine wp_cond_true (hA.ev rfl) ?_
              refine wp_seq_k (fun K57 hK57 => ?_)
              refine wp_region_lit ?_
              refine seq_do (v := .agg #[.bool false, .slice none 0 0, .slice none 0 0, .bool false, .slice none 0 0, .slice none 0 0]) hA rfl rfl rfl (does_build rfl (fun w => by kernel_rfl)) ?_
              intro a hA
              refine seq_store (us := [.bool false, .slice none 0 0, .slice none 0 0, .bool false, .slice none 0 0, .slice none 0 0]) hA hS rfl rfl (sets_store (cs := [.bool false, .slice none 0 0, .slice none 0 0, .bool false, .slice none 0 0, .slice none 0 0]) rfl rfl rfl (by kernel_rfl) hS 2 rfl rfl rfl) 2 rfl rfl rfl rfl ?_
              intro w58 hS
              refine seq_do hA rfl rfl rfl (does_assign rfl) ?_
              intro a hA
              refine seq_end ?_
              refine hK57 _ _ ?_
              refine wp_ret ?_
              refine hret _ _ ?_
              refine ends (v := .tuple #[.agg #[.bool false, .slice none 0 0, .slice none 0 0, .bool false, .slice none 0 0, .slice none 0 0], .int .i64 4]) hA rfl (.cons (res_cell hS isS_26 rfl 2 rfl (cs := [.bool false, .slice none 0 0, .slice none 0 0, .bool false, .slice none 0 0, .slice none 0 0]) rfl rfl) (.cons (res_tmp rfl) .nil)) rfl ?_
              rw [shiftQ_up hw (by omega) (by omega), bigS_neg (by omega)]
              exact ⟨none, 0, none, 0, none, 0, none, 0, rfl, ⟨(Sc.none _), (Sc.none _), (Sc.none _), (Sc.none _)⟩, hS.bel⟩
            · have hb56' := of_decide_eq_false hb56
              refine seq_do (v := .bool false) hA rfl rfl rfl (does_bin rfl rfl (fun w => (bin_gtr w).trans (by rw [hb56]))) ?_
              intro a hA
              refine seq_end ?_
              refine hK55 _ _ ?_
              refine wp_cond_false (hA.ev rfl) ?_
              refine wp_skip ?_
              refine hK54 _ _ ?_
              refine wp_seq_k (fun K59 hK59 => ?_)
              refine wp_region_lit ?_
              refine seq_do (v := .agg #[.bool false, .slice ro48 ((words (x * 2 ^ n.toNat)).length) rc49, .slice (some ⟨J33g, 0, none⟩) 1 1, .bool false, .slice J34 0 J35, .slice J36 1 J37]) hA rfl rfl rfl (does_loadS hS isS_26 rfl 0 rfl (cs := [.bool false, .slice ro48 ((words (x * 2 ^ n.toNat)).length) rc49, .slice (some ⟨J33g, 0, none⟩) 1 1, .bool false, .slice J34 0 J35, .slice J36 1 J37]) rfl rfl) ?_
              intro a hA
              refine seq_store (us := [.bool false, .slice ro48 ((words (x * 2 ^ n.toNat)).length) rc49, .slice (some ⟨J33g, 0, none⟩) 1 1, .bool false, .slice J34 0 J35, .slice J36 1 J37]) hA hS rfl rfl (sets_store (cs := [.bool false, .slice ro48 ((words (x * 2 ^ n.toNat)).length) rc49, .slice (some ⟨J33g, 0, none⟩) 1 1, .bool false, .slice J34 0 J35, .slice J36 1 J37]) rfl rfl rfl (by kernel_rfl) hS 2 rfl rfl rfl) 2 rfl rfl rfl rfl ?_
              intro w60 hS
              refine seq_do hA rfl rfl rfl (does_assign rfl) ?_
              intro a hA
              refine seq_end ?_
              refine hK59 _ _ ?_
              refine wp_ret ?_
              refine hret _ _ ?_
              refine ends (v := .tuple #[.agg #[.bool false, .slice ro48 ((words (x * 2 ^ n.toNat)).length) rc49, .slice (some ⟨J33g, 0, none⟩) 1 1, .bool false, .slice J34 0 J35, .slice J36 1 J37], .int .i64 0]) hA rfl (.cons (res_cell hS isS_26 rfl 2 rfl (cs := [.bool false, .slice ro48 ((words (x * 2 ^ n.toNat)).length) rc49, .slice (some ⟨J33g, 0, none⟩) 1 1, .bool false, .slice J34 0 J35, .slice J36 1 J37]) rfl rfl) (.cons (res_tmp rfl) .nil)) rfl ?_
              rw [shiftQ_up hw (by omega) (by omega), bigS_pos (by omega)]
              exact ⟨ro48, rc49, some ⟨J33g, 0, none⟩, 1, J34, J35, J36, J37, rfl, ⟨⟨(hS.rd 0 rfl), ho50.nocap, ho50.caps⟩, ⟨(hS.rd 3 rfl), (fun h => by cases h), (Nat.le_refl _)⟩, ⟨(hS.rd 2 rfl), hn40, hc41⟩, ⟨(hS.rd 1 rfl), hn38, hc39⟩⟩, hS.bel⟩
          · have hb46' := of_decide_eq_false hb46
            refine seq_do (v := .bool false) hA rfl rfl rfl (does_bin rfl rfl (fun w => (bin_geq w).trans (by rw [hb46]))) ?_
            intro a hA
            refine seq_end ?_
            refine hK45 _ _ ?_
            refine wp_cond_false (hA.ev rfl) ?_
            refine wp_skip ?_
            refine hK44 _ _ ?_
            refine wp_seq_k (fun K61 hK61 => ?_)
            refine wp_region_lit ?_
            refine seq_do (v := .agg #[.bool false, .slice a1 ((words x).length) ac1, .slice a2 1 ac2, .bool false, .slice a3 0 ac3, .slice a4 1 ac4]) hA rfl rfl rfl (does_loadS hS isS_26 rfl 3 rfl (cs := [.bool false, .slice a1 ((words x).length) ac1, .slice a2 1 ac2, .bool false, .slice a3 0 ac3, .slice a4 1 ac4]) rfl rfl) ?_
            intro a hA
            refine seq_new (vs := [.bool false, .slice none 0 0, .slice none 0 0, .bool false, .slice none 0 0, .slice none 0 0]) (t := 26) hA hS rfl rfl rfl (fun g => .pointer (some ⟨g, 0, none⟩)) (does_alloc (z := .agg #[.bool false, .slice none 0 0, .slice none 0 0, .bool false, .slice none 0 0, .slice none 0 0]) (by kernel_rfl) rfl) rfl ?_
            intro g62 w63 hS a hA
            refine seq_store (us := [.bool false, .slice a1 ((words x).length) ac1, .slice a2 1 ac2, .bool false, .slice a3 0 ac3, .slice a4 1 ac4]) hA hS rfl rfl (sets_store (cs := [.bool false, .slice a1 ((words x).length) ac1, .slice a2 1 ac2, .bool false, .slice a3 0 ac3, .slice a4 1 ac4]) rfl rfl rfl (by kernel_rfl) hS 0 rfl rfl rfl) 0 rfl rfl rfl rfl ?_
            intro w64 hS
            refine seq_end ?_
            refine hK61 _ _ ?_
            refine wp_seq_k (fun K65 hK65 => ?_)
            refine wp_seq_k (fun K66 hK66 => ?_)
            refine wp_region_lit ?_
            refine seq_do (v := .pointer (some ⟨g2, 0, none⟩)) hA rfl rfl rfl (does_field fld_26_0 rfl rfl) ?_
            intro a hA
            refine seq_do (v := .pointer (some ⟨g2, 0, none⟩)) hA rfl rfl rfl (does_field fld_24_0 rfl rfl) ?_
            intro a hA
            refine seq_do hA rfl rfl rfl (does_load1 hS is1_4 rfl 4 rfl rfl) ?_
            intro a hA
            refine seq_end ?_
            refine hK66 _ _ ?_
            refine wp_cond_false (hA.ev rfl) ?_
            refine wp_skip ?_
            refine hK65 _ _ ?_
            refine wp_seq_k (fun K67 hK67 => ?_)
            refine wp_region_lit ?_
            refine seq_do (v := .pointer (some ⟨J32g, 0, none⟩)) hA rfl rfl rfl (does_field fld_26_0 rfl rfl) ?_
            intro a hA
            refine seq_do (v := .pointer (some ⟨J32g, 0, none⟩)) hA rfl rfl rfl (does_field fld_24_0 rfl rfl) ?_
            intro a hA
            refine seq_store (us := [.bool false, .slice none 0 0, .slice (some ⟨J33g, 0, none⟩) 1 1, .bool false, .slice J34 0 J35, .slice J36 1 J37]) hA hS rfl rfl (sets_store (cs := [.bool false]) rfl rfl rfl (by kernel_rfl) hS 1 rfl rfl rfl) 1 rfl rfl rfl rfl ?_
            intro w68 hS
            refine seq_end ?_
            refine hK67 _ _ ?_
            refine wp_seq_k (fun K69 hK69 => ?_)
            refine wp_region_lit ?_
            refine seq_do (v := .pointer (some ⟨g62, 0, none⟩)) hA rfl rfl rfl (does_field fld_26_0 rfl rfl) ?_
            intro a hA
            refine seq_do (v := .pointer (some ⟨g62, 1, none⟩)) hA rfl rfl rfl (does_field fld_24_1 rfl rfl) ?_
            intro a hA
            refine seq_do hA rfl rfl rfl (does_load1 hS is1_22 rfl 0 rfl rfl) ?_
            intro a hA
            refine seq_do hA rfl rfl rfl (does_move rfl) ?_
            intro a hA
            refine seq_do (v := .int .i64 (-n)) hA rfl rfl rfl (does_un rfl (un_neg (i64In (by omega) (by omega)))) ?_
            intro a hA
            refine seq_call hA rfl rfl rfl (enters_func  rfl rfl (fun w => by kernel_rfl)) (rdownI_any _ (hS.rd 6 rfl) (by omega) (by omega) (by omega)) ?_
            rintro _ w74 ⟨ro70, rc71, rfl, ho72, hb73⟩
            replace hS := hS.call hb73
            replace hS := hS.addR ho72.rd
            refine ⟨_, rfl, ?_⟩
            intro a hA
            refine seq_do (v := .pointer (some ⟨J32g, 0, none⟩)) hA rfl rfl rfl (does_field fld_26_0 rfl rfl) ?_
            intro a hA
            refine seq_do (v := .pointer (some ⟨J32g, 1, none⟩)) hA rfl rfl rfl (does_field fld_24_1 rfl rfl) ?_
            intro a hA
            refine seq_store (us := [.bool false, .slice ro70 ((words (x / 2 ^ (-n).toNat)).length) rc71, .slice (some ⟨J33g, 0, none⟩) 1 1, .bool false, .slice J34 0 J35, .slice J36 1 J37]) hA hS rfl rfl (sets_store (cs := [.slice ro70 ((words (x / 2 ^ (-n).toNat)).length) rc71]) rfl rfl rfl (by kernel_rfl) hS 1 rfl rfl rfl) 1 rfl rfl rfl rfl ?_
            intro w75 hS
            refine seq_end ?_
            refine hK69 _ _ ?_
            refine wp_seq_k (fun K76 hK76 => ?_)
            refine wp_seq_k (fun K77 hK77 => ?_)
            refine wp_region_lit ?_
            refine seq_do (v := .pointer (some ⟨g2, 0, none⟩)) hA rfl rfl rfl (does_field fld_26_0 rfl rfl) ?_
            intro a hA
            refine seq_do (v := .pointer (some ⟨g2, 0, none⟩)) hA rfl rfl rfl (does_field fld_24_0 rfl rfl) ?_
            intro a hA
            refine seq_do hA rfl rfl rfl (does_load1 hS is1_4 rfl 4 rfl rfl) ?_
            intro a hA
            refine seq_end ?_
            refine hK77 _ _ ?_
            refine wp_cond_false (hA.ev rfl) ?_
            refine wp_skip ?_
            refine hK76 _ _ ?_
            refine wp_seq_k (fun K78 hK78 => ?_)
            refine wp_region_lit ?_
            refine seq_do (v := .agg #[.bool false, .slice ro70 ((words (x / 2 ^ (-n).toNat)).length) rc71, .slice (some ⟨J33g, 0, none⟩) 1 1, .bool false, .slice J34 0 J35, .slice J36 1 J37]) hA rfl rfl rfl (does_loadS hS isS_26 rfl 1 rfl (cs := [.bool false, .slice ro70 ((words (x / 2 ^ (-n).toNat)).length) rc71, .slice (some ⟨J33g, 0, none⟩) 1 1, .bool false, .slice J34 0 J35, .slice J36 1 J37]) rfl rfl) ?_
            intro a hA
            refine seq_store (us := [.bool false, .slice ro70 ((words (x / 2 ^ (-n).toNat)).length) rc71, .slice (some ⟨J33g, 0, none⟩) 1 1, .bool false, .slice J34 0 J35, .slice J36 1 J37]) hA hS rfl rfl (sets_store (cs := [.bool false, .slice ro70 ((words (x / 2 ^ (-n).toNat)).length) rc71, .slice (some ⟨J33g, 0, none⟩) 1 1, .bool false, .slice J34 0 J35, .slice J36 1 J37]) rfl rfl rfl (by kernel_rfl) hS 3 rfl rfl rfl) 3 rfl rfl rfl rfl ?_
            intro w79 hS
            refine seq_do hA rfl rfl rfl (does_assign rfl) ?_
            intro a hA
            refine seq_end ?_
            refine hK78 _ _ ?_
            refine wp_ret ?_
            refine hret _ _ ?_
            refine ends (v := .tuple #[.agg #[.bool false, .slice ro70 ((words (x / 2 ^ (-n).toNat)).length) rc71, .slice (some ⟨J33g, 0, none⟩) 1 1, .bool false, .slice J34 0 J35, .slice J36 1 J37], .int .i64 0]) hA rfl (.cons (res_cell hS isS_26 rfl 3 rfl (cs := [.bool false, .slice ro70 ((words (x / 2 ^ (-n).toNat)).length) rc71, .slice (some ⟨J33g, 0, none⟩) 1 1, .bool false, .slice J34 0 J35, .slice J36 1 J37]) rfl rfl) (.cons (res_tmp rfl) .nil)) rfl ?_
            rw [shiftQ_down hw (by omega) (by omega), bigS_pos (show (words ((x - false.toNat) / 2 ^ (-n).toNat + false.toNat)).length ≤ 512 from div_len hx)]
            exact ⟨ro70, rc71, some ⟨J33g, 0, none⟩, 1, J34, J35, J36, J37, rfl, ⟨⟨(hS.rd 0 rfl), ho72.nocap, ho72.caps⟩, ⟨(hS.rd 3 rfl), (fun h => by cases h), (Nat.le_refl _)⟩, ⟨(hS.rd 2 rfl), hn40, hc41⟩, ⟨(hS.rd 1 rfl), hn38, hc39⟩⟩, hS.bel⟩
        refine wp_draw (S := fun w1 => St w w1 [(g7, [.bool false, .slice a1 ((words x).length) ac1, .slice a2 1 ac2, .bool false, .slice a3 0 ac3, .slice a4 1 ac4]), (g4, [.bool false, .slice none 0 0, .slice none 0 0, .bool false, .slice none 0 0, .slice none 0 0]), (g2, [.bool false, .slice a1 ((words x).length) ac1, .slice a2 1 ac2, .bool false, .slice a3 0 ac3, .slice a4 1 ac4])] [(a4, [1]), (a3, []), (a2, [1]), (a1, words x)] []) (by kernel_rfl) ?_
        replace hS := hS.drew
        refine any_take (v := .pointer (some ⟨g2, 0, none⟩)) hA 0 rfl rfl rfl rfl (by kernel_rfl) (by kernel_rfl) (by kernel_rfl) (fun c a w h => hP c a _ _ w h) (hS.part (.cons_cons _ (.cons_cons _ (.cons_cons _ .slnil))) ⟨⟨0, rfl⟩, ⟨⟨1, rfl⟩, ⟨⟨2, rfl⟩, ⟨⟨3, rfl⟩, trivial⟩⟩⟩⟩ .slnil) (fun w1 hS => does_field fld_26_0 rfl rfl) ?_
        intro a hA
        refine any_take (v := .pointer (some ⟨g2, 0, none⟩)) hA 1 rfl rfl rfl rfl (by kernel_rfl) (by kernel_rfl) (by kernel_rfl) (fun c a w h => hP c a _ _ w h) (hS.part (.cons_cons _ (.cons_cons _ (.cons_cons _ .slnil))) ⟨⟨0, rfl⟩, ⟨⟨1, rfl⟩, ⟨⟨2, rfl⟩, ⟨⟨3, rfl⟩, trivial⟩⟩⟩⟩ .slnil) (fun w1 hS => does_field fld_24_0 rfl rfl) ?_
        intro a hA
        refine any_take hA 2 rfl rfl rfl rfl (by kernel_rfl) (by kernel_rfl) (by kernel_rfl) (fun c a w h => hP c a _ _ w h) (hS.part (.cons_cons _ (.cons_cons _ (.cons_cons _ .slnil))) ⟨⟨0, rfl⟩, ⟨⟨1, rfl⟩, ⟨⟨2, rfl⟩, ⟨⟨3, rfl⟩, trivial⟩⟩⟩⟩ .slnil) (fun w1 hS => does_load1 hS is1_4 rfl 2 rfl rfl) ?_
        intro a hA
        refine any_many (rs := [3, 5, 7]) (by kernel_rfl) (by simp) ⟨?_, ?_, ?_, trivial⟩
        · refine op_newU (us := [1]) (t := 41) (m := 1) hA hS 3 rfl rfl rfl rfl (does_buildSlice rfl (by kernel_rfl)) (by simp [Dig]) ?_
          intro g80 w81 hS
          refine ⟨(hS.part (.cons_cons _ (.cons_cons _ (.cons_cons _ .slnil))) ⟨⟨1, rfl⟩, ⟨⟨2, rfl⟩, ⟨⟨3, rfl⟩, ⟨⟨4, rfl⟩, trivial⟩⟩⟩⟩ .slnil), ?_⟩
          intro a hA
          refine any_take (v := .agg #[.bool false, .slice none 0 0, .slice (some ⟨g80, 0, none⟩) 1 1]) hA 4 rfl rfl rfl rfl (by kernel_rfl) (by kernel_rfl) (by kernel_rfl) (fun c a w h => hP c a _ _ w h) (hS.part (.cons_cons _ (.cons_cons _ (.cons_cons _ .slnil))) ⟨⟨1, rfl⟩, ⟨⟨2, rfl⟩, ⟨⟨3, rfl⟩, ⟨⟨4, rfl⟩, trivial⟩⟩⟩⟩ .slnil) (fun w1 hS => does_build rfl (fun w => by kernel_rfl)) ?_
          intro a hA
          refine any_many (rs := [5, 7]) (by kernel_rfl) (by simp) ⟨?_, ?_, trivial⟩
          · refine op_call hA 5 rfl rfl rfl rfl (enters_func  rfl rfl (fun w => by kernel_rfl)) (rzero_any _) ?_
            rintro _ w86 ⟨f82_1, f82_c1, f82_2, f82_c2, rfl, hs83, hs84, hb85⟩
            replace hS := hS.call hb85
            replace hS := hS.addR hs83.rd
            replace hS := hS.addR hs84.rd
            refine ⟨_, rfl, (hS.part (.cons_cons _ (.cons_cons _ (.cons_cons _ .slnil))) ⟨⟨3, rfl⟩, ⟨⟨4, rfl⟩, ⟨⟨5, rfl⟩, ⟨⟨6, rfl⟩, trivial⟩⟩⟩⟩ .slnil), ?_⟩
            intro a hA
            refine any_take (v := .agg #[.bool false, .slice none 0 0, .slice (some ⟨g80, 0, none⟩) 1 1, .bool false, .slice f82_1 0 f82_c1, .slice f82_2 1 f82_c2]) hA 6 rfl rfl rfl rfl (by kernel_rfl) (by kernel_rfl) (by kernel_rfl) (fun c a w h => hP c a _ _ w h) (hS.part (.cons_cons _ (.cons_cons _ (.cons_cons _ .slnil))) ⟨⟨3, rfl⟩, ⟨⟨4, rfl⟩, ⟨⟨5, rfl⟩, ⟨⟨6, rfl⟩, trivial⟩⟩⟩⟩ .slnil) (fun w1 hS => does_build rfl (fun w => by kernel_rfl)) ?_
            intro a hA
            refine any_one (by kernel_rfl) (op_new (vs := [.bool false, .slice none 0 0, .slice none 0 0, .bool false, .slice none 0 0, .slice none 0 0]) (t := 26) hA hS 7 rfl rfl rfl rfl (fun g => .pointer (some ⟨g, 0, none⟩)) (does_alloc (z := .agg #[.bool false, .slice none 0 0, .slice none 0 0, .bool false, .slice none 0 0, .slice none 0 0]) (by kernel_rfl) rfl) rfl ?_)
            intro g87 w88 hS
            refine ⟨(hS.part (.cons _ (.cons_cons _ (.cons_cons _ (.cons_cons _ .slnil)))) ⟨⟨3, rfl⟩, ⟨⟨4, rfl⟩, ⟨⟨5, rfl⟩, ⟨⟨6, rfl⟩, trivial⟩⟩⟩⟩ .slnil), ?_⟩
            intro a hA
            refine any_one (by kernel_rfl) (op_store (us := [.bool false, .slice none 0 0, .slice (some ⟨g80, 0, none⟩) 1 1, .bool false, .slice f82_1 0 f82_c1, .slice f82_2 1 f82_c2]) hA hS 8 rfl rfl rfl (sets_store (cs := [.bool false, .slice none 0 0, .slice (some ⟨g80, 0, none⟩) 1 1, .bool false, .slice f82_1 0 f82_c1, .slice f82_2 1 f82_c2]) rfl rfl rfl (by kernel_rfl) hS 0 rfl rfl rfl) 0 rfl rfl rfl rfl ?_)
            intro w89 hS
            refine ⟨(hS.part (.cons _ (.cons_cons _ (.cons_cons _ (.cons_cons _ .slnil)))) ⟨⟨3, rfl⟩, ⟨⟨4, rfl⟩, ⟨⟨5, rfl⟩, ⟨⟨6, rfl⟩, trivial⟩⟩⟩⟩ .slnil), ?_⟩
            refine any_end (by kernel_rfl) ?_
            refine hJ42 _ _ ⟨g87, g80, f82_1, f82_c1, f82_2, f82_c2, hA.keep _ ⟨rfl, rfl, rfl, rfl, rfl, rfl, rfl, rfl, rfl, rfl, rfl, rfl, rfl, rfl, rfl, rfl, rfl, rfl, rfl, rfl, rfl, rfl, rfl, rfl, rfl, trivial⟩, ((hS.pickR [(f82_2, [1]), (f82_1, []), (some ⟨g80, 0, none⟩, [1]), (a4, [1]), (a3, []), (a2, [1]), (a1, words x)] ⟨⟨0, rfl⟩, ⟨⟨1, rfl⟩, ⟨⟨2, rfl⟩, ⟨⟨3, rfl⟩, ⟨⟨4, rfl⟩, ⟨⟨5, rfl⟩, ⟨⟨6, rfl⟩, trivial⟩⟩⟩⟩⟩⟩⟩).pickL [(g87, [.bool false, .slice none 0 0, .slice (some ⟨g80, 0, none⟩) 1 1, .bool false, .slice f82_1 0 f82_c1, .slice f82_2 1 f82_c2]), (g7, [.bool false, .slice a1 ((words x).length) ac1, .slice a2 1 ac2, .bool false, .slice a3 0 ac3, .slice a4 1 ac4]), (g4, [.bool false, .slice none 0 0, .slice none 0 0, .bool false, .slice none 0 0, .slice none 0 0]), (g2, [.bool false, .slice a1 ((words x).length) ac1, .slice a2 1 ac2, .bool false, .slice a3 0 ac3, .slice a4 1 ac4])] [0, 1, 2, 3] rfl (by decide)), hs84.nil, hs84.cap, hs83.nil, hs83.cap⟩
          · refine op_new (vs := [.bool false, .slice none 0 0, .slice none 0 0, .bool false, .slice none 0 0, .slice none 0 0]) (t := 26) hA hS 7 rfl rfl rfl rfl (fun g => .pointer (some ⟨g, 0, none⟩)) (does_alloc (z := .agg #[.bool false, .slice none 0 0, .slice none 0 0, .bool false, .slice none 0 0, .slice none 0 0]) (by kernel_rfl) rfl) rfl ?_
            intro g90 w91 hS
            refine ⟨(hS.part (.cons _ (.cons_cons _ (.cons_cons _ (.cons_cons _ .slnil)))) ⟨⟨1, rfl⟩, ⟨⟨2, rfl⟩, ⟨⟨3, rfl⟩, ⟨⟨4, rfl⟩, trivial⟩⟩⟩⟩ .slnil), ?_⟩
            intro a hA
            refine any_one (by kernel_rfl) (op_call hA 5 rfl rfl rfl rfl (enters_func  rfl rfl (fun w => by kernel_rfl)) (rzero_any _) ?_)
            rintro _ w96 ⟨f92_1, f92_c1, f92_2, f92_c2, rfl, hs93, hs94, hb95⟩
            replace hS := hS.call hb95
            replace hS := hS.addR hs93.rd
            replace hS := hS.addR hs94.rd
            refine ⟨_, rfl, (hS.part (.cons _ (.cons_cons _ (.cons_cons _ (.cons_cons _ .slnil)))) ⟨⟨3, rfl⟩, ⟨⟨4, rfl⟩, ⟨⟨5, rfl⟩, ⟨⟨6, rfl⟩, trivial⟩⟩⟩⟩ .slnil), ?_⟩
            intro a hA
            refine any_take (v := .agg #[.bool false, .slice none 0 0, .slice (some ⟨g80, 0, none⟩) 1 1, .bool false, .slice f92_1 0 f92_c1, .slice f92_2 1 f92_c2]) hA 6 rfl rfl rfl rfl (by kernel_rfl) (by kernel_rfl) (by kernel_rfl) (fun c a w h => hP c a _ _ w h) (hS.part (.cons _ (.cons_cons _ (.cons_cons _ (.cons_cons _ .slnil)))) ⟨⟨3, rfl⟩, ⟨⟨4, rfl⟩, ⟨⟨5, rfl⟩, ⟨⟨6, rfl⟩, trivial⟩⟩⟩⟩ .slnil) (fun w1 hS => does_build rfl (fun w => by kernel_rfl)) ?_
            intro a hA
            refine any_one (by kernel_rfl) (op_store (us := [.bool false, .slice none 0 0, .slice (some ⟨g80, 0, none⟩) 1 1, .bool false, .slice f92_1 0 f92_c1, .slice f92_2 1 f92_c2]) hA hS 8 rfl rfl rfl (sets_store (cs := [.bool false, .slice none 0 0, .slice (some ⟨g80, 0, none⟩) 1 1, .bool false, .slice f92_1 0 f92_c1, .slice f92_2 1 f92_c2]) rfl rfl rfl (by kernel_rfl) hS 0 rfl rfl rfl) 0 rfl rfl rfl rfl ?_)
            intro w97 hS
            refine ⟨(hS.part (.cons _ (.cons_cons _ (.cons_cons _ (.cons_cons _ .slnil)))) ⟨⟨3, rfl⟩, ⟨⟨4, rfl⟩, ⟨⟨5, rfl⟩, ⟨⟨6, rfl⟩, trivial⟩⟩⟩⟩ .slnil), ?_⟩
            refine any_end (by kernel_rfl) ?_
            refine hJ42 _ _ ⟨g90, g80, f92_1, f92_c1, f92_2, f92_c2, hA.keep _ ⟨rfl, rfl, rfl, rfl, rfl, rfl, rfl, rfl, rfl, rfl, rfl, rfl, rfl, rfl, rfl, rfl, rfl, rfl, rfl, rfl, rfl, rfl, rfl, rfl, rfl, trivial⟩, ((hS.pickR [(f92_2, [1]), (f92_1, []), (some ⟨g80, 0, none⟩, [1]), (a4, [1]), (a3, []), (a2, [1]), (a1, words x)] ⟨⟨0, rfl⟩, ⟨⟨1, rfl⟩, ⟨⟨2, rfl⟩, ⟨⟨3, rfl⟩, ⟨⟨4, rfl⟩, ⟨⟨5, rfl⟩, ⟨⟨6, rfl⟩, trivial⟩⟩⟩⟩⟩⟩⟩).pickL [(g90, [.bool false, .slice none 0 0, .slice (some ⟨g80, 0, none⟩) 1 1, .bool false, .slice f92_1 0 f92_c1, .slice f92_2 1 f92_c2]), (g7, [.bool false, .slice a1 ((words x).length) ac1, .slice a2 1 ac2, .bool false, .slice a3 0 ac3, .slice a4 1 ac4]), (g4, [.bool false, .slice none 0 0, .slice none 0 0, .bool false, .slice none 0 0, .slice none 0 0]), (g2, [.bool false, .slice a1 ((words x).length) ac1, .slice a2 1 ac2, .bool false, .slice a3 0 ac3, .slice a4 1 ac4])] [0, 1, 2, 3] rfl (by decide)), hs94.nil, hs94.cap, hs93.nil, hs93.cap⟩
        · refine op_call hA 5 rfl rfl rfl rfl (enters_func  rfl rfl (fun w => by kernel_rfl)) (rzero_any _) ?_
          rintro _ w102 ⟨f98_1, f98_c1, f98_2, f98_c2, rfl, hs99, hs100, hb101⟩
          replace hS := hS.call hb101
          replace hS := hS.addR hs99.rd
          replace hS := hS.addR hs100.rd
          refine ⟨_, rfl, (hS.part (.cons_cons _ (.cons_cons _ (.cons_cons _ .slnil))) ⟨⟨2, rfl⟩, ⟨⟨3, rfl⟩, ⟨⟨4, rfl⟩, ⟨⟨5, rfl⟩, trivial⟩⟩⟩⟩ .slnil), ?_⟩
          intro a hA
          refine any_many (rs := [3, 7]) (by kernel_rfl) (by simp) ⟨?_, ?_, trivial⟩
          · refine op_newU (us := [1]) (t := 41) (m := 1) hA hS 3 rfl rfl rfl rfl (does_buildSlice rfl (by kernel_rfl)) (by simp [Dig]) ?_
            intro g103 w104 hS
            refine ⟨(hS.part (.cons_cons _ (.cons_cons _ (.cons_cons _ .slnil))) ⟨⟨3, rfl⟩, ⟨⟨4, rfl⟩, ⟨⟨5, rfl⟩, ⟨⟨6, rfl⟩, trivial⟩⟩⟩⟩ .slnil), ?_⟩
            intro a hA
            refine any_take (v := .agg #[.bool false, .slice none 0 0, .slice (some ⟨g103, 0, none⟩) 1 1]) hA 4 rfl rfl rfl rfl (by kernel_rfl) (by kernel_rfl) (by kernel_rfl) (fun c a w h => hP c a _ _ w h) (hS.part (.cons_cons _ (.cons_cons _ (.cons_cons _ .slnil))) ⟨⟨3, rfl⟩, ⟨⟨4, rfl⟩, ⟨⟨5, rfl⟩, ⟨⟨6, rfl⟩, trivial⟩⟩⟩⟩ .slnil) (fun w1 hS => does_build rfl (fun w => by kernel_rfl)) ?_
            intro a hA
            refine any_take (v := .agg #[.bool false, .slice none 0 0, .slice (some ⟨g103, 0, none⟩) 1 1, .bool false, .slice f98_1 0 f98_c1, .slice f98_2 1 f98_c2]) hA 6 rfl rfl rfl rfl (by kernel_rfl) (by kernel_rfl) (by kernel_rfl) (fun c a w h => hP c a _ _ w h) (hS.part (.cons_cons _ (.cons_cons _ (.cons_cons _ .slnil))) ⟨⟨3, rfl⟩, ⟨⟨4, rfl⟩, ⟨⟨5, rfl⟩, ⟨⟨6, rfl⟩, trivial⟩⟩⟩⟩ .slnil) (fun w1 hS => does_build rfl (fun w => by kernel_rfl)) ?_
            intro a hA
            refine any_one (by kernel_rfl) (op_new (vs := [.bool false, .slice none 0 0, .slice none 0 0, .bool false, .slice none 0 0, .slice none 0 0]) (t := 26) hA hS 7 rfl rfl rfl rfl (fun g => .pointer (some ⟨g, 0, none⟩)) (does_alloc (z := .agg #[.bool false, .slice none 0 0, .slice none 0 0, .bool false, .slice none 0 0, .slice none 0 0]) (by kernel_rfl) rfl) rfl ?_)
            intro g105 w106 hS
            refine ⟨(hS.part (.cons _ (.cons_cons _ (.cons_cons _ (.cons_cons _ .slnil)))) ⟨⟨3, rfl⟩, ⟨⟨4, rfl⟩, ⟨⟨5, rfl⟩, ⟨⟨6, rfl⟩, trivial⟩⟩⟩⟩ .slnil), ?_⟩
            intro a hA
            refine any_one (by kernel_rfl) (op_store (us := [.bool false, .slice none 0 0, .slice (some ⟨g103, 0, none⟩) 1 1, .bool false, .slice f98_1 0 f98_c1, .slice f98_2 1 f98_c2]) hA hS 8 rfl rfl rfl (sets_store (cs := [.bool false, .slice none 0 0, .slice (some ⟨g103, 0, none⟩) 1 1, .bool false, .slice f98_1 0 f98_c1, .slice f98_2 1 f98_c2]) rfl rfl rfl (by kernel_rfl) hS 0 rfl rfl rfl) 0 rfl rfl rfl rfl ?_)
            intro w107 hS
            refine ⟨(hS.part (.cons _ (.cons_cons _ (.cons_cons _ (.cons_cons _ .slnil)))) ⟨⟨3, rfl⟩, ⟨⟨4, rfl⟩, ⟨⟨5, rfl⟩, ⟨⟨6, rfl⟩, trivial⟩⟩⟩⟩ .slnil), ?_⟩
            refine any_end (by kernel_rfl) ?_
            refine hJ42 _ _ ⟨g105, g103, f98_1, f98_c1, f98_2, f98_c2, hA.keep _ ⟨rfl, rfl, rfl, rfl, rfl, rfl, rfl, rfl, rfl, rfl, rfl, rfl, rfl, rfl, rfl, rfl, rfl, rfl, rfl, rfl, rfl, rfl, rfl, rfl, rfl, trivial⟩, ((hS.pickR [(f98_2, [1]), (f98_1, []), (some ⟨g103, 0, none⟩, [1]), (a4, [1]), (a3, []), (a2, [1]), (a1, words x)] ⟨⟨1, rfl⟩, ⟨⟨2, rfl⟩, ⟨⟨0, rfl⟩, ⟨⟨3, rfl⟩, ⟨⟨4, rfl⟩, ⟨⟨5, rfl⟩, ⟨⟨6, rfl⟩, trivial⟩⟩⟩⟩⟩⟩⟩).pickL [(g105, [.bool false, .slice none 0 0, .slice (some ⟨g103, 0, none⟩) 1 1, .bool false, .slice f98_1 0 f98_c1, .slice f98_2 1 f98_c2]), (g7, [.bool false, .slice a1 ((words x).length) ac1, .slice a2 1 ac2, .bool false, .slice a3 0 ac3, .slice a4 1 ac4]), (g4, [.bool false, .slice none 0 0, .slice none 0 0, .bool false, .slice none 0 0, .slice none 0 0]), (g2, [.bool false, .slice a1 ((words x).length) ac1, .slice a2 1 ac2, .bool false, .slice a3 0 ac3, .slice a4 1 ac4])] [0, 1, 2, 3] rfl (by decide)), hs100.nil, hs100.cap, hs99.nil, hs99.cap⟩
          · refine op_new (vs := [.bool false, .slice none 0 0, .slice none 0 0, .bool false, .slice none 0 0, .slice none 0 0]) (t := 26) hA hS 7 rfl rfl rfl rfl (fun g => .pointer (some ⟨g, 0, none⟩)) (does_alloc (z := .agg #[.bool false, .slice none 0 0, .slice none 0 0, .bool false, .slice none 0 0, .slice none 0 0]) (by kernel_rfl) rfl) rfl ?_
            intro g108 w109 hS
            refine ⟨(hS.part (.cons _ (.cons_cons _ (.cons_cons _ (.cons_cons _ .slnil)))) ⟨⟨2, rfl⟩, ⟨⟨3, rfl⟩, ⟨⟨4, rfl⟩, ⟨⟨5, rfl⟩, trivial⟩⟩⟩⟩ .slnil), ?_⟩
            intro a hA
            refine any_one (by kernel_rfl) (op_newU (us := [1]) (t := 41) (m := 1) hA hS 3 rfl rfl rfl rfl (does_buildSlice rfl (by kernel_rfl)) (by simp [Dig]) ?_)
            intro g110 w111 hS
            refine ⟨(hS.part (.cons _ (.cons_cons _ (.cons_cons _ (.cons_cons _ .slnil)))) ⟨⟨3, rfl⟩, ⟨⟨4, rfl⟩, ⟨⟨5, rfl⟩, ⟨⟨6, rfl⟩, trivial⟩⟩⟩⟩ .slnil), ?_⟩
            intro a hA
            refine any_take (v := .agg #[.bool false, .slice none 0 0, .slice (some ⟨g110, 0, none⟩) 1 1]) hA 4 rfl rfl rfl rfl (by kernel_rfl) (by kernel_rfl) (by kernel_rfl) (fun c a w h => hP c a _ _ w h) (hS.part (.cons _ (.cons_cons _ (.cons_cons _ (.cons_cons _ .slnil)))) ⟨⟨3, rfl⟩, ⟨⟨4, rfl⟩, ⟨⟨5, rfl⟩, ⟨⟨6, rfl⟩, trivial⟩⟩⟩⟩ .slnil) (fun w1 hS => does_build rfl (fun w => by kernel_rfl)) ?_
            intro a hA
            refine any_take (v := .agg #[.bool false, .slice none 0 0, .slice (some ⟨g110, 0, none⟩) 1 1, .bool false, .slice f98_1 0 f98_c1, .slice f98_2 1 f98_c2]) hA 6 rfl rfl rfl rfl (by kernel_rfl) (by kernel_rfl) (by kernel_rfl) (fun c a w h => hP c a _ _ w h) (hS.part (.cons _ (.cons_cons _ (.cons_cons _ (.cons_cons _ .slnil)))) ⟨⟨3, rfl⟩, ⟨⟨4, rfl⟩, ⟨⟨5, rfl⟩, ⟨⟨6, rfl⟩, trivial⟩⟩⟩⟩ .slnil) (fun w1 hS => does_build rfl (fun w => by kernel_rfl)) ?_
            intro a hA
            refine any_one (by kernel_rfl) (op_store (us := [.bool false, .slice none 0 0, .slice (some ⟨g110, 0, none⟩) 1 1, .bool false, .slice f98_1 0 f98_c1, .slice f98_2 1 f98_c2]) hA hS 8 rfl rfl rfl (sets_store (cs := [.bool false, .slice none 0 0, .slice (some ⟨g110, 0, none⟩) 1 1, .bool false, .slice f98_1 0 f98_c1, .slice f98_2 1 f98_c2]) rfl rfl rfl (by kernel_rfl) hS 0 rfl rfl rfl) 0 rfl rfl rfl rfl ?_)
            intro w112 hS
            refine ⟨(hS.part (.cons _ (.cons_cons _ (.cons_cons _ (.cons_cons _ .slnil)))) ⟨⟨3, rfl⟩, ⟨⟨4, rfl⟩, ⟨⟨5, rfl⟩, ⟨⟨6, rfl⟩, trivial⟩⟩⟩⟩ .slnil), ?_⟩
            refine any_end (by kernel_rfl) ?_
            refine hJ42 _ _ ⟨g108, g110, f98_1, f98_c1, f98_2, f98_c2, hA.keep _ ⟨rfl, rfl, rfl, rfl, rfl, rfl, rfl, rfl, rfl, rfl, rfl, rfl, rfl, rfl, rfl, rfl, rfl, rfl, rfl, rfl, rfl, rfl, rfl, rfl, rfl, trivial⟩, ((hS.pickR [(f98_2, [1]), (f98_1, []), (some ⟨g110, 0, none⟩, [1]), (a4, [1]), (a3, []), (a2, [1]), (a1, words x)] ⟨⟨1, rfl⟩, ⟨⟨2, rfl⟩, ⟨⟨0, rfl⟩, ⟨⟨3, rfl⟩, ⟨⟨4, rfl⟩, ⟨⟨5, rfl⟩, ⟨⟨6, rfl⟩, trivial⟩⟩⟩⟩⟩⟩⟩).pickL [(g108, [.bool false, .slice none 0 0, .slice (some ⟨g110, 0, none⟩) 1 1, .bool false, .slice f98_1 0 f98_c1, .slice f98_2 1 f98_c2]), (g7, [.bool false, .slice a1 ((words x).length) ac1, .slice a2 1 ac2, .bool false, .slice a3 0 ac3, .slice a4 1 ac4]), (g4, [.bool false, .slice none 0 0, .slice none 0 0, .bool false, .slice none 0 0, .slice none 0 0]), (g2, [.bool false, .slice a1 ((words x).length) ac1, .slice a2 1 ac2, .bool false, .slice a3 0 ac3, .slice a4 1 ac4])] [0, 1, 2, 3] rfl (by decide)), hs100.nil, hs100.cap, hs99.nil, hs99.cap⟩
        · refine op_new (vs := [.bool false, .slice none 0 0, .slice none 0 0, .bool false, .slice none 0 0, .slice none 0 0]) (t := 26) hA hS 7 rfl rfl rfl rfl (fun g => .pointer (some ⟨g, 0, none⟩)) (does_alloc (z := .agg #[.bool false, .slice none 0 0, .slice none 0 0, .bool false, .slice none 0 0, .slice none 0 0]) (by kernel_rfl) rfl) rfl ?_
          intro g113 w114 hS
          refine ⟨(hS.part (.cons _ (.cons_cons _ (.cons_cons _ (.cons_cons _ .slnil)))) ⟨⟨0, rfl⟩, ⟨⟨1, rfl⟩, ⟨⟨2, rfl⟩, ⟨⟨3, rfl⟩, trivial⟩⟩⟩⟩ .slnil), ?_⟩
          intro a hA
          refine any_many (rs := [3, 5]) (by kernel_rfl) (by simp) ⟨?_, ?_, trivial⟩
          · refine op_newU (us := [1]) (t := 41) (m := 1) hA hS 3 rfl rfl rfl rfl (does_buildSlice rfl (by kernel_rfl)) (by simp [Dig]) ?_
            intro g115 w116 hS
            refine ⟨(hS.part (.cons _ (.cons_cons _ (.cons_cons _ (.cons_cons _ .slnil)))) ⟨⟨1, rfl⟩, ⟨⟨2, rfl⟩, ⟨⟨3, rfl⟩, ⟨⟨4, rfl⟩, trivial⟩⟩⟩⟩ .slnil), ?_⟩
            intro a hA
            refine any_take (v := .agg #[.bool false, .slice none 0 0, .slice (some ⟨g115, 0, none⟩) 1 1]) hA 4 rfl rfl rfl rfl (by kernel_rfl) (by kernel_rfl) (by kernel_rfl) (fun c a w h => hP c a _ _ w h) (hS.part (.cons _ (.cons_cons _ (.cons_cons _ (.cons_cons _ .slnil)))) ⟨⟨1, rfl⟩, ⟨⟨2, rfl⟩, ⟨⟨3, rfl⟩, ⟨⟨4, rfl⟩, trivial⟩⟩⟩⟩ .slnil) (fun w1 hS => does_build rfl (fun w => by kernel_rfl)) ?_
            intro a hA
            refine any_one (by kernel_rfl) (op_call hA 5 rfl rfl rfl rfl (enters_func  rfl rfl (fun w => by kernel_rfl)) (rzero_any _) ?_)
            rintro _ w121 ⟨f117_1, f117_c1, f117_2, f117_c2, rfl, hs118, hs119, hb120⟩
            replace hS := hS.call hb120
            replace hS := hS.addR hs118.rd
            replace hS := hS.addR hs119.rd
            refine ⟨_, rfl, (hS.part (.cons _ (.cons_cons _ (.cons_cons _ (.cons_cons _ .slnil)))) ⟨⟨3, rfl⟩, ⟨⟨4, rfl⟩, ⟨⟨5, rfl⟩, ⟨⟨6, rfl⟩, trivial⟩⟩⟩⟩ .slnil), ?_⟩
            intro a hA
            refine any_take (v := .agg #[.bool false, .slice none 0 0, .slice (some ⟨g115, 0, none⟩) 1 1, .bool false, .slice f117_1 0 f117_c1, .slice f117_2 1 f117_c2]) hA 6 rfl rfl rfl rfl (by kernel_rfl) (by kernel_rfl) (by kernel_rfl) (fun c a w h => hP c a _ _ w h) (hS.part (.cons _ (.cons_cons _ (.cons_cons _ (.cons_cons _ .slnil)))) ⟨⟨3, rfl⟩, ⟨⟨4, rfl⟩, ⟨⟨5, rfl⟩, ⟨⟨6, rfl⟩, trivial⟩⟩⟩⟩ .slnil) (fun w1 hS => does_build rfl (fun w => by kernel_rfl)) ?_
            intro a hA
            refine any_one (by kernel_rfl) (op_store (us := [.bool false, .slice none 0 0, .slice (some ⟨g115, 0, none⟩) 1 1, .bool false, .slice f117_1 0 f117_c1, .slice f117_2 1 f117_c2]) hA hS 8 rfl rfl rfl (sets_store (cs := [.bool false, .slice none 0 0, .slice (some ⟨g115, 0, none⟩) 1 1, .bool false, .slice f117_1 0 f117_c1, .slice f117_2 1 f117_c2]) rfl rfl rfl (by kernel_rfl) hS 0 rfl rfl rfl) 0 rfl rfl rfl rfl ?_)
            intro w122 hS
            refine ⟨(hS.part (.cons _ (.cons_cons _ (.cons_cons _ (.cons_cons _ .slnil)))) ⟨⟨3, rfl⟩, ⟨⟨4, rfl⟩, ⟨⟨5, rfl⟩, ⟨⟨6, rfl⟩, trivial⟩⟩⟩⟩ .slnil), ?_⟩
            refine any_end (by kernel_rfl) ?_
            refine hJ42 _ _ ⟨g113, g115, f117_1, f117_c1, f117_2, f117_c2, hA.keep _ ⟨rfl, rfl, rfl, rfl, rfl, rfl, rfl, rfl, rfl, rfl, rfl, rfl, rfl, rfl, rfl, rfl, rfl, rfl, rfl, rfl, rfl, rfl, rfl, rfl, rfl, trivial⟩, ((hS.pickR [(f117_2, [1]), (f117_1, []), (some ⟨g115, 0, none⟩, [1]), (a4, [1]), (a3, []), (a2, [1]), (a1, words x)] ⟨⟨0, rfl⟩, ⟨⟨1, rfl⟩, ⟨⟨2, rfl⟩, ⟨⟨3, rfl⟩, ⟨⟨4, rfl⟩, ⟨⟨5, rfl⟩, ⟨⟨6, rfl⟩, trivial⟩⟩⟩⟩⟩⟩⟩).pickL [(g113, [.bool false, .slice none 0 0, .slice (some ⟨g115, 0, none⟩) 1 1, .bool false, .slice f117_1 0 f117_c1, .slice f117_2 1 f117_c2]), (g7, [.bool false, .slice a1 ((words x).length) ac1, .slice a2 1 ac2, .bool false, .slice a3 0 ac3, .slice a4 1 ac4]), (g4, [.bool false, .slice none 0 0, .slice none 0 0, .bool false, .slice none 0 0, .slice none 0 0]), (g2, [.bool false, .slice a1 ((words x).length) ac1, .slice a2 1 ac2, .bool false, .slice a3 0 ac3, .slice a4 1 ac4])] [0, 1, 2, 3] rfl (by decide)), hs119.nil, hs119.cap, hs118.nil, hs118.cap⟩
          · refine op_call hA 5 rfl rfl rfl rfl (enters_func  rfl rfl (fun w => by kernel_rfl)) (rzero_any _) ?_
            rintro _ w127 ⟨f123_1, f123_c1, f123_2, f123_c2, rfl, hs124, hs125, hb126⟩
            replace hS := hS.call hb126
            replace hS := hS.addR hs124.rd
            replace hS := hS.addR hs125.rd
            refine ⟨_, rfl, (hS.part (.cons _ (.cons_cons _ (.cons_cons _ (.cons_cons _ .slnil)))) ⟨⟨2, rfl⟩, ⟨⟨3, rfl⟩, ⟨⟨4, rfl⟩, ⟨⟨5, rfl⟩, trivial⟩⟩⟩⟩ .slnil), ?_⟩
            intro a hA
            refine any_one (by kernel_rfl) (op_newU (us := [1]) (t := 41) (m := 1) hA hS 3 rfl rfl rfl rfl (does_buildSlice rfl (by kernel_rfl)) (by simp [Dig]) ?_)
            intro g128 w129 hS
            refine ⟨(hS.part (.cons _ (.cons_cons _ (.cons_cons _ (.cons_cons _ .slnil)))) ⟨⟨3, rfl⟩, ⟨⟨4, rfl⟩, ⟨⟨5, rfl⟩, ⟨⟨6, rfl⟩, trivial⟩⟩⟩⟩ .slnil), ?_⟩
            intro a hA
            refine any_take (v := .agg #[.bool false, .slice none 0 0, .slice (some ⟨g128, 0, none⟩) 1 1]) hA 4 rfl rfl rfl rfl (by kernel_rfl) (by kernel_rfl) (by kernel_rfl) (fun c a w h => hP c a _ _ w h) (hS.part (.cons _ (.cons_cons _ (.cons_cons _ (.cons_cons _ .slnil)))) ⟨⟨3, rfl⟩, ⟨⟨4, rfl⟩, ⟨⟨5, rfl⟩, ⟨⟨6, rfl⟩, trivial⟩⟩⟩⟩ .slnil) (fun w1 hS => does_build rfl (fun w => by kernel_rfl)) ?_
            intro a hA
            refine any_take (v := .agg #[.bool false, .slice none 0 0, .slice (some ⟨g128, 0, none⟩) 1 1, .bool false, .slice f123_1 0 f123_c1, .slice f123_2 1 f123_c2]) hA 6 rfl rfl rfl rfl (by kernel_rfl) (by kernel_rfl) (by kernel_rfl) (fun c a w h => hP c a _ _ w h) (hS.part (.cons _ (.cons_cons _ (.cons_cons _ (.cons_cons _ .slnil)))) ⟨⟨3, rfl⟩, ⟨⟨4, rfl⟩, ⟨⟨5, rfl⟩, ⟨⟨6, rfl⟩, trivial⟩⟩⟩⟩ .slnil) (fun w1 hS => does_build rfl (fun w => by kernel_rfl)) ?_
            intro a hA
            refine any_one (by kernel_rfl) (op_store (us := [.bool false, .slice none 0 0, .slice (some ⟨g128, 0, none⟩) 1 1, .bool false, .slice f123_1 0 f123_c1, .slice f123_2 1 f123_c2]) hA hS 8 rfl rfl rfl (sets_store (cs := [.bool false, .slice none 0 0, .slice (some ⟨g128, 0, none⟩) 1 1, .bool false, .slice f123_1 0 f123_c1, .slice f123_2 1 f123_c2]) rfl rfl rfl (by kernel_rfl) hS 0 rfl rfl rfl) 0 rfl rfl rfl rfl ?_)
            intro w130 hS
            refine ⟨(hS.part (.cons _ (.cons_cons _ (.cons_cons _ (.cons_cons _ .slnil)))) ⟨⟨3, rfl⟩, ⟨⟨4, rfl⟩, ⟨⟨5, rfl⟩, ⟨⟨6, rfl⟩, trivial⟩⟩⟩⟩ .slnil), ?_⟩
            refine any_end (by kernel_rfl) ?_
            refine hJ42 _ _ ⟨g113, g128, f123_1, f123_c1, f123_2, f123_c2, hA.keep _ ⟨rfl, rfl, rfl, rfl, rfl, rfl, rfl, rfl, rfl, rfl, rfl, rfl, rfl, rfl, rfl, rfl, rfl, rfl, rfl, rfl, rfl, rfl, rfl, rfl, rfl, trivial⟩, ((hS.pickR [(f123_2, [1]), (f123_1, []), (some ⟨g128, 0, none⟩, [1]), (a4, [1]), (a3, []), (a2, [1]), (a1, words x)] ⟨⟨1, rfl⟩, ⟨⟨2, rfl⟩, ⟨⟨0, rfl⟩, ⟨⟨3, rfl⟩, ⟨⟨4, rfl⟩, ⟨⟨5, rfl⟩, ⟨⟨6, rfl⟩, trivial⟩⟩⟩⟩⟩⟩⟩).pickL [(g113, [.bool false, .slice none 0 0, .slice (some ⟨g128, 0, none⟩) 1 1, .bool false, .slice f123_1 0 f123_c1, .slice f123_2 1 f123_c2]), (g7, [.bool false, .slice a1 ((words x).length) ac1, .slice a2 1 ac2, .bool false, .slice a3 0 ac3, .slice a4 1 ac4]), (g4, [.bool false, .slice none 0 0, .slice none 0 0, .bool false, .slice none 0 0, .slice none 0 0]), (g2, [.bool false, .slice a1 ((words x).length) ac1, .slice a2 1 ac2, .bool false, .slice a3 0 ac3, .slice a4 1 ac4])] [0, 1, 2, 3] rfl (by decide)), hs125.nil, hs125.cap, hs124.nil, hs124.cap⟩
  · have hS : St w w [] [(a4, [1]), (a3, []), (a2, [1]), (a1, words x)] [] := ((((St.start w).addR ha.s1.rd).addR ha.s2.rd).addR ha.s3.rd).addR ha.s4.rd
    refine walk_of (l := [(0, .agg #[.bool true, .slice a1 ((words x).length) ac1, .slice a2 1 ac2, .bool false, .slice a3 0 ac3, .slice a4 1 ac4]), (1, .int .i64 n)]) Try.func15 rfl Try.ntmps15 rfl rfl ?_
    intro Q hret hnorm hP a hA
    refine wp_seq_k (fun K1 hK1 => ?_)
    refine wp_region_lit ?_
    refine seq_new (vs := [.bool true, .slice a1 ((words x).length) ac1, .slice a2 1 ac2, .bool false, .slice a3 0 ac3, .slice a4 1 ac4]) (t := 26) hA hS rfl rfl rfl (fun g => .pointer (some ⟨g, 0, none⟩)) (does_box rfl rfl) rfl ?_
    intro g2 w3 hS a hA
    refine seq_new (vs := [.bool false, .slice none 0 0, .slice none 0 0, .bool false, .slice none 0 0, .slice none 0 0]) (t := 26) hA hS rfl rfl rfl (fun g => .pointer (some ⟨g, 0, none⟩)) (does_alloc (z := .agg #[.bool false, .slice none 0 0, .slice none 0 0, .bool false, .slice none 0 0, .slice none 0 0]) (by kernel_rfl) rfl) rfl ?_
    intro g4 w5 hS a hA
    refine seq_do hA rfl rfl rfl (does_assign rfl) ?_
    intro a hA
    refine seq_end ?_
    refine hK1 _ _ ?_
    refine wp_seq_k (fun K6 hK6 => ?_)
    refine wp_region_lit ?_
    refine seq_do (v := .agg #[.bool true, .slice a1 ((words x).length) ac1, .slice a2 1 ac2, .bool false, .slice a3 0 ac3, .slice a4 1 ac4]) hA rfl rfl rfl (does_loadS hS isS_26 rfl 1 rfl (cs := [.bool true, .slice a1 ((words x).length) ac1, .slice a2 1 ac2, .bool false, .slice a3 0 ac3, .slice a4 1 ac4]) rfl rfl) ?_
    intro a hA
    refine seq_new (vs := [.bool true, .slice a1 ((words x).length) ac1, .slice a2 1 ac2, .bool false, .slice a3 0 ac3, .slice a4 1 ac4]) (t := 26) hA hS rfl rfl rfl (fun g => .slice (some ⟨g, 0, none⟩) 1 1) (does_buildSlice rfl (by kernel_rfl)) rfl ?_
    intro g7 w8 hS a hA
    refine seq_call hA rfl rfl rfl (enters_func  rfl rfl (fun w => by kernel_rfl)) (rcheck1_any (show Nm _ (Q6.whole true x) a1 ac1 a2 ac2 a3 ac3 a4 ac4 from ⟨⟨(hS.rd 3 rfl), ha.s1.nil, ha.s1.cap⟩, ⟨(hS.rd 2 rfl), ha.s2.nil, ha.s2.cap⟩, ⟨(hS.rd 1 rfl), ha.s3.nil, ha.s3.cap⟩, ⟨(hS.rd 0 rfl), ha.s4.nil, ha.s4.cap⟩⟩) hl (hS.blk 0 rfl) hw) ?_
    rintro _ w10 ⟨rfl, hb9⟩
    replace hS := hS.call hb9
    refine ⟨_, rfl, ?_⟩
    intro a hA
    refine seq_do hA rfl rfl rfl (does_assign rfl) ?_
    intro a hA
    refine seq_end ?_
    refine hK6 _ _ ?_
    refine wp_seq_k (fun K11 hK11 => ?_)
    refine wp_seq_k (fun K12 hK12 => ?_)
    refine wp_region_lit ?_
    refine seq_do hA rfl rfl rfl (does_move rfl) ?_
    intro a hA
    refine seq_do (v := .bool false) hA rfl rfl rfl (does_bin rfl rfl (fun w => by kernel_rfl)) ?_
    intro a hA
    refine seq_end ?_
    refine hK12 _ _ ?_
    refine wp_cond_false (hA.ev rfl) ?_
    refine wp_skip ?_
    refine hK11 _ _ ?_
    refine wp_seq_k (fun K13 hK13 => ?_)
    refine wp_seq_k (fun K14 hK14 => ?_)
    refine wp_region_lit ?_
    refine seq_do hA rfl rfl rfl (does_move rfl) ?_
    intro a hA
    rcases Bool.eq_false_or_eq_true (decide (n < -16384)) with hb15 | hb15
    · have hb15' := of_decide_eq_true hb15
      refine seq_do (v := .bool true) hA rfl rfl rfl (does_bin rfl rfl (fun w => (bin_lss w).trans (by rw [hb15]))) ?_
      intro a hA
      refine seq_do hA rfl rfl rfl (does_move rfl) ?_
      intro a hA
      refine seq_skip hA rfl rfl rfl ?_
      intro a hA
      refine seq_skip hA rfl rfl rfl ?_
      intro a hA
      refine seq_do (v := .bool true) hA rfl rfl rfl (does_pick rfl rfl rfl rfl) ?_
      intro a hA
      refine seq_end ?_
      refine hK14 _ _ ?_
      refine wp_cond_true (hA.ev rfl) ?_
      refine wp_seq_k (fun K16 hK16 => ?_)
      refine wp_region_lit ?_
      refine seq_do (v := .agg #[.bool false, .slice none 0 0, .slice none 0 0, .bool false, .slice none 0 0, .slice none 0 0]) hA rfl rfl rfl (does_build rfl (fun w => by kernel_rfl)) ?_
      intro a hA
      refine seq_store (us := [.bool false, .slice none 0 0, .slice none 0 0, .bool false, .slice none 0 0, .slice none 0 0]) hA hS rfl rfl (sets_store (cs := [.bool false, .slice none 0 0, .slice none 0 0, .bool false, .slice none 0 0, .slice none 0 0]) rfl rfl rfl (by kernel_rfl) hS 1 rfl rfl rfl) 1 rfl rfl rfl rfl ?_
      intro w17 hS
      refine seq_do hA rfl rfl rfl (does_assign rfl) ?_
      intro a hA
      refine seq_end ?_
      refine hK16 _ _ ?_
      refine wp_ret ?_
      refine hret _ _ ?_
      refine ends (v := .tuple #[.agg #[.bool false, .slice none 0 0, .slice none 0 0, .bool false, .slice none 0 0, .slice none 0 0], .int .i64 1]) hA rfl (.cons (res_cell hS isS_26 rfl 1 rfl (cs := [.bool false, .slice none 0 0, .slice none 0 0, .bool false, .slice none 0 0, .slice none 0 0]) rfl rfl) (.cons (res_tmp rfl) .nil)) rfl ?_
      rw [shiftQ_arg hw (by omega)]
      exact ⟨none, 0, none, 0, none, 0, none, 0, rfl, ⟨(Sc.none _), (Sc.none _), (Sc.none _), (Sc.none _)⟩, hS.bel⟩
    · have hb15' := of_decide_eq_false hb15
      refine seq_do (v := .bool false) hA rfl rfl rfl (does_bin rfl rfl (fun w => (bin_lss w).trans (by rw [hb15]))) ?_
      intro a hA
      refine seq_do hA rfl rfl rfl (does_move rfl) ?_
      intro a hA
      refine seq_do hA rfl rfl rfl (does_move rfl) ?_
      intro a hA
      rcases Bool.eq_false_or_eq_true (decide (16384 < n)) with hb18 | hb18
      · have hb18' := of_decide_eq_true hb18
        refine seq_do (v := .bool true) hA rfl rfl rfl (does_bin rfl rfl (fun w => (bin_gtr w).trans (by rw [hb18]))) ?_
        intro a hA
        refine seq_do (v := .bool true) hA rfl rfl rfl (does_pick rfl rfl rfl rfl) ?_
        intro a hA
        refine seq_end ?_
        refine hK14 _ _ ?_
        refine wp_cond_true (hA.ev rfl) ?_
        refine wp_seq_k (fun K19 hK19 => ?_)
        refine wp_region_lit ?_
        refine seq_do (v := .agg #[.bool false, .slice none 0 0, .slice none 0 0, .bool false, .slice none 0 0, .slice none 0 0]) hA rfl rfl rfl (does_build rfl (fun w => by kernel_rfl)) ?_
        intro a hA
        refine seq_store (us := [.bool false, .slice none 0 0, .slice none 0 0, .bool false, .slice none 0 0, .slice none 0 0]) hA hS rfl rfl (sets_store (cs := [.bool false, .slice none 0 0, .slice none 0 0, .bool false, .slice none 0 0, .slice none 0 0]) rfl rfl rfl (by kernel_rfl) hS 1 rfl rfl rfl) 1 rfl rfl rfl rfl ?_
        intro w20 hS
        refine seq_do hA rfl rfl rfl (does_assign rfl) ?_
        intro a hA
        refine seq_end ?_
        refine hK19 _ _ ?_
        refine wp_ret ?_
        refine hret _ _ ?_
        refine ends (v := .tuple #[.agg #[.bool false, .slice none 0 0, .slice none 0 0, .bool false, .slice none 0 0, .slice none 0 0], .int .i64 1]) hA rfl (.cons (res_cell hS isS_26 rfl 1 rfl (cs := [.bool false, .slice none 0 0, .slice none 0 0, .bool false, .slice none 0 0, .slice none 0 0]) rfl rfl) (.cons (res_tmp rfl) .nil)) rfl ?_
        rw [shiftQ_arg hw (by omega)]
        exact ⟨none, 0, none, 0, none, 0, none, 0, rfl, ⟨(Sc.none _), (Sc.none _), (Sc.none _), (Sc.none _)⟩, hS.bel⟩
      · have hb18' := of_decide_eq_false hb18
        refine seq_do (v := .bool false) hA rfl rfl rfl (does_bin rfl rfl (fun w => (bin_gtr w).trans (by rw [hb18]))) ?_
        intro a hA
        refine seq_do (v := .bool false) hA rfl rfl rfl (does_pick rfl rfl rfl rfl) ?_
        intro a hA
        refine seq_end ?_
        refine hK14 _ _ ?_
        refine wp_cond_false (hA.ev rfl) ?_
        refine wp_skip ?_
        refine hK13 _ _ ?_
        refine wp_seq_k (fun K21 hK21 => ?_)
        have hJ42 : ∀ a w1, (∃ (J32g : Nat) (J33g : Nat) (J34 : Option Addr) (J35 : Nat) (J36 : Option Addr) (J37 : Nat), Sl a 68 [(0, .agg #[.bool true, .slice a1 ((words x).length) ac1, .slice a2 1 ac2, .bool false, .slice a3 0 ac3, .slice a4 1 ac4]), (1, .int .i64 n), (2, .pointer (some ⟨g2, 0, none⟩)), (4, .pointer (some ⟨g4, 0, none⟩)), (5, .int .i64 0), (6, .int .i64 0), (7, .pointer (some ⟨J32g, 0, none⟩)), (9, .agg #[.bool true, .slice a1 ((words x).length) ac1, .slice a2 1 ac2, .bool false, .slice a3 0 ac3, .slice a4 1 ac4]), (10, .slice (some ⟨g7, 0, none⟩) 1 1), (11, .int .i64 0), (12, .int .i64 0), (13, .bool false), (16, .int .i64 n), (17, .bool false), (18, .bool false), (19, .int .i64 n), (20, .bool false), (21, .bool false), (23, .pointer (some ⟨g2, 0, none⟩)), (24, .pointer (some ⟨g2, 0, none⟩)), (25, .bool true), (26, .slice (some ⟨J33g, 0, none⟩) 1 1), (27, .agg #[.bool true, .slice none 0 0, .slice (some ⟨J33g, 0, none⟩) 1 1]), (28, .agg #[.bool false, .slice J34 0 J35, .slice J36 1 J37]), (29, .agg #[.bool true, .slice none 0 0, .slice (some ⟨J33g, 0, none⟩) 1 1, .bool false, .slice J34 0 J35, .slice J36 1 J37])] ∧ St w w1 [(J32g, [.bool true, .slice none 0 0, .slice (some ⟨J33g, 0, none⟩) 1 1, .bool false, .slice J34 0 J35, .slice J36 1 J37]), (g7, [.bool true, .slice a1 ((words x).length) ac1, .slice a2 1 ac2, .bool false, .slice a3 0 ac3, .slice a4 1 ac4]), (g4, [.bool false, .slice none 0 0, .slice none 0 0, .bool false, .slice none 0 0, .slice none 0 0]), (g2, [.bool true, .slice a1 ((words x).length) ac1, .slice a2 1 ac2, .bool false, .slice a3 0 ac3, .slice a4 1 ac4])] [(J36, [1]), (J34, []), (some ⟨J33g, 0, none⟩, [1]), (a4, [1]), (a3, []), (a2, [1]), (a1, words x)] [] ∧ (J36 = none → J37 = 0) ∧ ([1] : List Nat).length ≤ J37 ∧ (J34 = none → J35 = 0) ∧ ([] : List Nat).length ≤ J35) → K21 a w1 := by
          clear hA hS
          rintro a w43 ⟨J32g, J33g, J34, J35, J36, J37, hA, hS, hn38, hc39, hn40, hc41⟩
          refine hK21 _ _ ?_
          refine wp_seq_k (fun K44 hK44 => ?_)
          refine wp_seq_k (fun K45 hK45 => ?_)
          refine wp_region_lit ?_
          refine seq_do hA rfl rfl rfl (does_move rfl) ?_
          intro a hA
          rcases Bool.eq_false_or_eq_true (decide (0 ≤ n)) with hb46 | hb46
          · have hb46' := of_decide_eq_true hb46
            refine seq_do (v := .bool true) hA rfl rfl rfl (does_bin rfl rfl (fun w => (bin_geq w).trans (by rw [hb46]))) ?_
            intro a hA
            refine seq_end ?_
            refine hK45 _ _ ?_
            refine wp_cond_true (hA.ev rfl) ?_
            refine wp_seq_k (fun K47 hK47 => ?_)
            refine wp_region_lit ?_
            refine seq_do (v := .pointer (some ⟨g2, 0, none⟩)) hA rfl rfl rfl (does_field fld_26_0 rfl rfl) ?_
            intro a hA
            refine seq_do (v := .pointer (some ⟨g2, 1, none⟩)) hA rfl rfl rfl (does_field fld_24_1 rfl rfl) ?_
            intro a hA
            refine seq_do hA rfl rfl rfl (does_load1 hS is1_22 rfl 3 rfl rfl) ?_
            intro a hA
            refine seq_do hA rfl rfl rfl (does_move rfl) ?_
            intro a hA
            refine seq_call hA rfl rfl rfl (enters_func  rfl rfl (fun w => by kernel_rfl)) (rupI_any _ (hS.rd 6 rfl) (by omega) (by omega) (by omega)) ?_
            rintro _ w52 ⟨ro48, rc49, rfl, ho50, hb51⟩
            replace hS := hS.call hb51
            replace hS := hS.addR ho50.rd
            refine ⟨_, rfl, ?_⟩
            intro a hA
            refine seq_do (v := .pointer (some ⟨J32g, 0, none⟩)) hA rfl rfl rfl (does_field fld_26_0 rfl rfl) ?_
            intro a hA
            refine seq_do (v := .pointer (some ⟨J32g, 1, none⟩)) hA rfl rfl rfl (does_field fld_24_1 rfl rfl) ?_
            intro a hA
            refine seq_store (us := [.bool true, .slice ro48 ((words (x * 2 ^ n.toNat)).length) rc49, .slice (some ⟨J33g, 0, none⟩) 1 1, .bool false, .slice J34 0 J35, .slice J36 1 J37]) hA hS rfl rfl (sets_store (cs := [.slice ro48 ((words (x * 2 ^ n.toNat)).length) rc49]) rfl rfl rfl (by kernel_rfl) hS 0 rfl rfl rfl) 0 rfl rfl rfl rfl ?_
            intro w53 hS
            refine seq_end ?_
            refine hK47 _ _ ?_
            refine wp_seq_k (fun K54 hK54 => ?_)
            refine wp_seq_k (fun K55 hK55 => ?_)
            refine wp_region_lit ?_
            refine seq_do (v := .pointer (some ⟨J32g, 0, none⟩)) hA rfl rfl rfl (does_field fld_26_0 rfl rfl) ?_
            intro a hA
            refine seq_do (v := .pointer (some ⟨J32g, 1, none⟩)) hA rfl rfl rfl (does_field fld_24_1 rfl rfl) ?_
            intro a hA
            refine seq_do hA rfl rfl rfl (does_load1 hS is1_22 rfl 0 rfl rfl) ?_
            intro a hA
            refine seq_do (v := .int .i64 ((((words (x * 2 ^ n.toNat)).length : Nat) : Int))) hA rfl rfl rfl (does_len Try.underlying22 rfl) ?_
            intro a hA
            rcases Bool.eq_false_or_eq_true (decide (512 < (((words (x * 2 ^ n.toNat)).length : Nat) : Int))) with hb56 | hb56
            · have hb56' := of_decide_eq_true hb56
              refine seq_do (v := .bool true) hA rfl rfl rfl (does_bin rfl rfl (fun w => (bin_gtr w).trans (by rw [hb56]))) ?_
              intro a hA
              refine seq_end ?_
              refine hK55 _ _ ?_
              refine wp_cond_true (hA.ev rfl) ?_
              refine wp_seq_k (fun K57 hK57 => ?_)
              refine wp_region_lit ?_
              refine seq_do (v := .agg #[.bool false, .slice none 0 0, .slice none 0 0, .bool false, .slice none 0 0, .slice none 0 0]) hA rfl rfl rfl (does_build rfl (fun w => by kernel_rfl)) ?_
              intro a hA
              refine seq_store (us := [.bool false, .slice none 0 0, .slice none 0 0, .bool false, .slice none 0 0, .slice none 0 0]) hA hS rfl rfl (sets_store (cs := [.bool false, .slice none 0 0, .slice none 0 0, .bool false, .slice none 0 0, .slice none 0 0]) rfl rfl rfl (by kernel_rfl) hS 2 rfl rfl rfl) 2 rfl rfl rfl rfl ?_
              intro w58 hS
              refine seq_do hA rfl rfl rfl (does_assign rfl) ?_
              intro a hA
              refine seq_end ?_
              refine hK57 _ _ ?_
              refine wp_ret ?_
              refine hret _ _ ?_
              refine ends (v := .tuple #[.agg #[.bool false, .slice none 0 0, .slice none 0 0, .bool false, .slice none 0 0, .slice none 0 0], .int .i64 4]) hA rfl (.cons (res_cell hS isS_26 rfl 2 rfl (cs := [.bool false, .slice none 0 0, .slice none 0 0, .bool false, .slice none 0 0, .slice none 0 0]) rfl rfl) (.cons (res_tmp rfl) .nil)) rfl ?_
              rw [shiftQ_up hw (by omega) (by omega), bigS_neg (by omega)]
              exact ⟨none, 0, none, 0, none, 0, none, 0, rfl, ⟨(Sc.none _), (Sc.none _), (Sc.none _), (Sc.none _)⟩, hS.bel⟩
            · have hb56' := of_decide_eq_false hb56
              refine seq_do (v := .bool false) hA rfl rfl rfl (does_bin rfl rfl (fun w => (bin_gtr w).trans (by rw [hb56]))) ?_
              intro a hA
              refine seq_end ?_
              refine hK55 _ _ ?_
              refine wp_cond_false (hA.ev rfl) ?_
              refine wp_skip ?_
              refine hK54 _ _ ?_
              refine wp_seq_k (fun K59 hK59 => ?_)
              refine wp_region_lit ?_
              refine seq_do (v := .agg #[.bool true, .slice ro48 ((words (x * 2 ^ n.toNat)).length) rc49, .slice (some ⟨J33g, 0, none⟩) 1 1, .bool false, .slice J34 0 J35, .slice J36 1 J37]) hA rfl rfl rfl (does_loadS hS isS_26 rfl 0 rfl (cs := [.bool true, .slice ro48 ((words (x * 2 ^ n.toNat)).length) rc49, .slice (some ⟨J33g, 0, none⟩) 1 1, .bool false, .slice J34 0 J35, .slice J36 1 J37]) rfl rfl) ?_
              intro a hA
              refine seq_store (us := [.bool true, .slice ro48 ((words (x * 2 ^ n.toNat)).length) rc49, .slice (some ⟨J33g, 0, none⟩) 1 1, .bool false, .slice J34 0 J35, .slice J36 1 J37]) hA hS rfl rfl (sets_store (cs := [.bool true, .slice ro48 ((words (x * 2 ^ n.toNat)).length) rc49, .slice (some ⟨J33g, 0, none⟩) 1 1, .bool false, .slice J34 0 J35, .slice J36 1 J37]) rfl rfl rfl (by kernel_rfl) hS 2 rfl rfl rfl) 2 rfl rfl rfl rfl ?_
              intro w60 hS
              refine seq_do hA rfl rfl rfl (does_assign rfl) ?_
              intro a hA
              refine seq_end ?_
              refine hK59 _ _ ?_
              refine wp_ret ?_
              refine hret _ _ ?_
              refine ends (v := .tuple #[.agg #[.bool true, .slice ro48 ((words (x * 2 ^ n.toNat)).length) rc49, .slice (some ⟨J33g, 0, none⟩) 1 1, .bool false, .slice J34 0 J35, .slice J36 1 J37], .int .i64 0]) hA rfl (.cons (res_cell hS isS_26 rfl 2 rfl (cs := [.bool true, .slice ro48 ((words (x * 2 ^ n.toNat)).length) rc49, .slice (some ⟨J33g, 0, none⟩) 1 1, .bool false, .slice J34 0 J35, .slice J36 1 J37]) rfl rfl) (.cons (res_tmp rfl) .nil)) rfl ?_
              rw [shiftQ_up hw (by omega) (by omega), bigS_pos (by omega)]
              exact ⟨ro48, rc49, some ⟨J33g, 0, none⟩, 1, J34, J35, J36, J37, rfl, ⟨⟨(hS.rd 0 rfl), ho50.nocap, ho50.caps⟩, ⟨(hS.rd 3 rfl), (fun h => by cases h), (Nat.le_refl _)⟩, ⟨(hS.rd 2 rfl), hn40, hc41⟩, ⟨(hS.rd 1 rfl), hn38, hc39⟩⟩, hS.bel⟩
          · have hb46' := of_decide_eq_false hb46
            refine seq_do (v := .bool false) hA rfl rfl rfl (does_bin rfl rfl (fun w => (bin_geq w).trans (by rw [hb46]))) ?_
            intro a hA
            refine seq_end ?_
            refine hK45 _ _ ?_
            refine wp_cond_false (hA.ev rfl) ?_
            refine wp_skip ?_
            refine hK44 _ _ ?_
            refine wp_seq_k (fun K61 hK61 => ?_)
            refine wp_region_lit ?_
            refine seq_do (v := .agg #[.bool true, .slice a1 ((words x).length) ac1, .slice a2 1 ac2, .bool false, .slice a3 0 ac3, .slice a4 1 ac4]) hA rfl rfl rfl (does_loadS hS isS_26 rfl 3 rfl (cs := [.bool true, .slice a1 ((words x).length) ac1, .slice a2 1 ac2, .bool false, .slice a3 0 ac3, .slice a4 1 ac4]) rfl rfl) ?_
            intro a hA
            refine seq_new (vs := [.bool false, .slice none 0 0, .slice none 0 0, .bool false, .slice none 0 0, .slice none 0 0]) (t := 26) hA hS rfl rfl rfl (fun g => .pointer (some ⟨g, 0, none⟩)) (does_alloc (z := .agg #[.bool false, .slice none 0 0, .slice none 0 0, .bool false, .slice none 0 0, .slice none 0 0]) (by kernel_rfl) rfl) rfl ?_
            intro g62 w63 hS a hA
            refine seq_store (us := [.bool true, .slice a1 ((words x).length) ac1, .slice a2 1 ac2, .bool false, .slice a3 0 ac3, .slice a4 1 ac4]) hA hS rfl rfl (sets_store (cs := [.bool true, .slice a1 ((words x).length) ac1, .slice a2 1 ac2, .bool false, .slice a3 0 ac3, .slice a4 1 ac4]) rfl rfl rfl (by kernel_rfl) hS 0 rfl rfl rfl) 0 rfl rfl rfl rfl ?_
            intro w64 hS
            refine seq_end ?_
            refine hK61 _ _ ?_
            refine wp_seq_k (fun K65 hK65 => ?_)
            refine wp_seq_k (fun K66 hK66 => ?_)
            refine wp_region_lit ?_
            refine seq_do (v := .pointer (some ⟨g2, 0, none⟩)) hA rfl rfl rfl (does_field fld_26_0 rfl rfl) ?_
            intro a hA
            refine seq_do (v := .pointer (some ⟨g2, 0, none⟩)) hA rfl rfl rfl (does_field fld_24_0 rfl rfl) ?_
            intro a hA
            refine seq_do hA rfl rfl rfl (does_load1 hS is1_4 rfl 4 rfl rfl) ?_
            intro a hA
            refine seq_end ?_
            refine hK66 _ _ ?_
            refine wp_cond_true (hA.ev rfl) ?_
            refine wp_region_lit ?_
            refine seq_do (v := .agg #[.bool true, .slice a1 ((words x).length) ac1, .slice a2 1 ac2, .bool false, .slice a3 0 ac3, .slice a4 1 ac4]) hA rfl rfl rfl (does_loadS hS isS_26 rfl 4 rfl (cs := [.bool true, .slice a1 ((words x).length) ac1, .slice a2 1 ac2, .bool false, .slice a3 0 ac3, .slice a4 1 ac4]) rfl rfl) ?_
            intro a hA
            refine seq_call hA rfl rfl rfl (enters_func  rfl rfl (fun w => by kernel_rfl)) (rturn_any (b := true) (x := x) (show Nm _ _ a1 ac1 a2 ac2 a3 ac3 a4 ac4 from ⟨⟨(hS.rd 6 rfl), ha.s1.nil, ha.s1.cap⟩, ⟨(hS.rd 5 rfl), ha.s2.nil, ha.s2.cap⟩, ⟨(hS.rd 4 rfl), ha.s3.nil, ha.s3.cap⟩, ⟨(hS.rd 3 rfl), ha.s4.nil, ha.s4.cap⟩⟩) (by omega) hb) ?_
            rintro _ w70 ⟨p67_1, p67_c1, p67_2, p67_c2, p67_3, p67_c3, p67_4, p67_c4, rfl, hn68, hb69⟩
            replace hS := hS.call hb69
            replace hS := hS.addR hn68.s1.rd
            replace hS := hS.addR hn68.s2.rd
            replace hS := hS.addR hn68.s3.rd
            replace hS := hS.addR hn68.s4.rd
            refine ⟨_, rfl, ?_⟩
            intro a hA
            refine seq_store (us := [.bool false, .slice p67_1 ((words (turnN true x)).length) p67_c1, .slice p67_2 1 p67_c2, .bool false, .slice p67_3 0 p67_c3, .slice p67_4 1 p67_c4]) hA hS rfl rfl (sets_store (cs := [.bool false, .slice p67_1 ((words (turnN true x)).length) p67_c1, .slice p67_2 1 p67_c2, .bool false, .slice p67_3 0 p67_c3, .slice p67_4 1 p67_c4]) rfl rfl rfl (by kernel_rfl) hS 0 rfl rfl rfl) 0 rfl rfl rfl rfl ?_
            intro w71 hS
            refine seq_end ?_
            refine hK65 _ _ ?_
            refine wp_seq_k (fun K72 hK72 => ?_)
            refine wp_region_lit ?_
            refine seq_do (v := .pointer (some ⟨J32g, 0, none⟩)) hA rfl rfl rfl (does_field fld_26_0 rfl rfl) ?_
            intro a hA
            refine seq_do (v := .pointer (some ⟨J32g, 0, none⟩)) hA rfl rfl rfl (does_field fld_24_0 rfl rfl) ?_
            intro a hA
            refine seq_store (us := [.bool false, .slice none 0 0, .slice (some ⟨J33g, 0, none⟩) 1 1, .bool false, .slice J34 0 J35, .slice J36 1 J37]) hA hS rfl rfl (sets_store (cs := [.bool false]) rfl rfl rfl (by kernel_rfl) hS 1 rfl rfl rfl) 1 rfl rfl rfl rfl ?_
            intro w73 hS
            refine seq_end ?_
            refine hK72 _ _ ?_
            refine wp_seq_k (fun K74 hK74 => ?_)
            refine wp_region_lit ?_
            refine seq_do (v := .pointer (some ⟨g62, 0, none⟩)) hA rfl rfl rfl (does_field fld_26_0 rfl rfl) ?_
            intro a hA
            refine seq_do (v := .pointer (some ⟨g62, 1, none⟩)) hA rfl rfl rfl (does_field fld_24_1 rfl rfl) ?_
            intro a hA
            refine seq_do hA rfl rfl rfl (does_load1 hS is1_22 rfl 0 rfl rfl) ?_
            intro a hA
            refine seq_do hA rfl rfl rfl (does_move rfl) ?_
            intro a hA
            refine seq_do (v := .int .i64 (-n)) hA rfl rfl rfl (does_un rfl (un_neg (i64In (by omega) (by omega)))) ?_
            intro a hA
            refine seq_call hA rfl rfl rfl (enters_func  rfl rfl (fun w => by kernel_rfl)) (rdownI_any _ (hS.rd 3 rfl) (Nat.le_trans (turn_len hx) (by decide)) (by omega) (by omega)) ?_
            rintro _ w79 ⟨ro75, rc76, rfl, ho77, hb78⟩
            replace hS := hS.call hb78
            replace hS := hS.addR ho77.rd
            refine ⟨_, rfl, ?_⟩
            intro a hA
            refine seq_do (v := .pointer (some ⟨J32g, 0, none⟩)) hA rfl rfl rfl (does_field fld_26_0 rfl rfl) ?_
            intro a hA
            refine seq_do (v := .pointer (some ⟨J32g, 1, none⟩)) hA rfl rfl rfl (does_field fld_24_1 rfl rfl) ?_
            intro a hA
            refine seq_store (us := [.bool false, .slice ro75 ((words ((turnN true x) / 2 ^ (-n).toNat)).length) rc76, .slice (some ⟨J33g, 0, none⟩) 1 1, .bool false, .slice J34 0 J35, .slice J36 1 J37]) hA hS rfl rfl (sets_store (cs := [.slice ro75 ((words ((turnN true x) / 2 ^ (-n).toNat)).length) rc76]) rfl rfl rfl (by kernel_rfl) hS 1 rfl rfl rfl) 1 rfl rfl rfl rfl ?_
            intro w80 hS
            refine seq_end ?_
            refine hK74 _ _ ?_
            refine wp_seq_k (fun K81 hK81 => ?_)
            refine wp_seq_k (fun K82 hK82 => ?_)
            refine wp_region_lit ?_
            refine seq_do (v := .pointer (some ⟨g2, 0, none⟩)) hA rfl rfl rfl (does_field fld_26_0 rfl rfl) ?_
            intro a hA
            refine seq_do (v := .pointer (some ⟨g2, 0, none⟩)) hA rfl rfl rfl (does_field fld_24_0 rfl rfl) ?_
            intro a hA
            refine seq_do hA rfl rfl rfl (does_load1 hS is1_4 rfl 4 rfl rfl) ?_
            intro a hA
            refine seq_end ?_
            refine hK82 _ _ ?_
            refine wp_cond_true (hA.ev rfl) ?_
            refine wp_region_lit ?_
            refine seq_do (v := .agg #[.bool false, .slice ro75 ((words ((turnN true x) / 2 ^ (-n).toNat)).length) rc76, .slice (some ⟨J33g, 0, none⟩) 1 1, .bool false, .slice J34 0 J35, .slice J36 1 J37]) hA rfl rfl rfl (does_loadS hS isS_26 rfl 1 rfl (cs := [.bool false, .slice ro75 ((words ((turnN true x) / 2 ^ (-n).toNat)).length) rc76, .slice (some ⟨J33g, 0, none⟩) 1 1, .bool false, .slice J34 0 J35, .slice J36 1 J37]) rfl rfl) ?_
            intro a hA
            refine seq_call hA rfl rfl rfl (enters_func  rfl rfl (fun w => by kernel_rfl)) (rturn_any (b := false) (x := (turnN true x) / 2 ^ (-n).toNat) (show Nm _ _ ro75 rc76 (some ⟨J33g, 0, none⟩) 1 J34 J35 J36 J37 from ⟨⟨(hS.rd 0 rfl), ho77.nocap, ho77.caps⟩, ⟨(hS.rd 7 rfl), (fun h => by cases h), (Nat.le_refl _)⟩, ⟨(hS.rd 6 rfl), hn40, hc41⟩, ⟨(hS.rd 5 rfl), hn38, hc39⟩⟩) (by have h9 := down_fits (k := (-n).toNat) hx hb; have h8 := words_mono (Nat.le_succ ((x - 1) / 2 ^ (-n).toNat)); exact Nat.le_trans h8 (Nat.le_trans h9 (by decide))) (by simp)) ?_
            rintro _ w86 ⟨p83_1, p83_c1, p83_2, p83_c2, p83_3, p83_c3, p83_4, p83_c4, rfl, hn84, hb85⟩
            replace hS := hS.call hb85
            replace hS := hS.addR hn84.s1.rd
            replace hS := hS.addR hn84.s2.rd
            replace hS := hS.addR hn84.s3.rd
            replace hS := hS.addR hn84.s4.rd
            refine ⟨_, rfl, ?_⟩
            intro a hA
            refine seq_store (us := [.bool true, .slice p83_1 ((words (turnN false ((turnN true x) / 2 ^ (-n).toNat))).length) p83_c1, .slice p83_2 1 p83_c2, .bool false, .slice p83_3 0 p83_c3, .slice p83_4 1 p83_c4]) hA hS rfl rfl (sets_store (cs := [.bool true, .slice p83_1 ((words (turnN false ((turnN true x) / 2 ^ (-n).toNat))).length) p83_c1, .slice p83_2 1 p83_c2, .bool false, .slice p83_3 0 p83_c3, .slice p83_4 1 p83_c4]) rfl rfl rfl (by kernel_rfl) hS 1 rfl rfl rfl) 1 rfl rfl rfl rfl ?_
            intro w87 hS
            refine seq_end ?_
            refine hK81 _ _ ?_
            refine wp_seq_k (fun K88 hK88 => ?_)
            refine wp_region_lit ?_
            refine seq_do (v := .agg #[.bool true, .slice p83_1 ((words (turnN false ((turnN true x) / 2 ^ (-n).toNat))).length) p83_c1, .slice p83_2 1 p83_c2, .bool false, .slice p83_3 0 p83_c3, .slice p83_4 1 p83_c4]) hA rfl rfl rfl (does_loadS hS isS_26 rfl 1 rfl (cs := [.bool true, .slice p83_1 ((words (turnN false ((turnN true x) / 2 ^ (-n).toNat))).length) p83_c1, .slice p83_2 1 p83_c2, .bool false, .slice p83_3 0 p83_c3, .slice p83_4 1 p83_c4]) rfl rfl) ?_
            intro a hA
            refine seq_store (us := [.bool true, .slice p83_1 ((words (turnN false ((turnN true x) / 2 ^ (-n).toNat))).length) p83_c1, .slice p83_2 1 p83_c2, .bool false, .slice p83_3 0 p83_c3, .slice p83_4 1 p83_c4]) hA hS rfl rfl (sets_store (cs := [.bool true, .slice p83_1 ((words (turnN false ((turnN true x) / 2 ^ (-n).toNat))).length) p83_c1, .slice p83_2 1 p83_c2, .bool false, .slice p83_3 0 p83_c3, .slice p83_4 1 p83_c4]) rfl rfl rfl (by kernel_rfl) hS 3 rfl rfl rfl) 3 rfl rfl rfl rfl ?_
            intro w89 hS
            refine seq_do hA rfl rfl rfl (does_assign rfl) ?_
            intro a hA
            refine seq_end ?_
            refine hK88 _ _ ?_
            refine wp_ret ?_
            refine hret _ _ ?_
            refine ends (v := .tuple #[.agg #[.bool true, .slice p83_1 ((words (turnN false ((turnN true x) / 2 ^ (-n).toNat))).length) p83_c1, .slice p83_2 1 p83_c2, .bool false, .slice p83_3 0 p83_c3, .slice p83_4 1 p83_c4], .int .i64 0]) hA rfl (.cons (res_cell hS isS_26 rfl 3 rfl (cs := [.bool true, .slice p83_1 ((words (turnN false ((turnN true x) / 2 ^ (-n).toNat))).length) p83_c1, .slice p83_2 1 p83_c2, .bool false, .slice p83_3 0 p83_c3, .slice p83_4 1 p83_c4]) rfl rfl) (.cons (res_tmp rfl) .nil)) rfl ?_
            rw [shiftQ_down hw (by omega) (by omega), bigS_pos (show (words ((x - true.toNat) / 2 ^ (-n).toNat + true.toNat)).length ≤ 512 from down_fits hx hb)]
            exact ⟨p83_1, p83_c1, p83_2, p83_c2, p83_3, p83_c3, p83_4, p83_c4, rfl, ⟨⟨(hS.rd 3 rfl), hn84.s1.nil, hn84.s1.cap⟩, ⟨(hS.rd 2 rfl), hn84.s2.nil, hn84.s2.cap⟩, ⟨(hS.rd 1 rfl), hn84.s3.nil, hn84.s3.cap⟩, ⟨(hS.rd 0 rfl), hn84.s4.nil, hn84.s4.cap⟩⟩, hS.bel⟩
        refine wp_draw (S := fun w1 => St w w1 [(g7, [.bool true, .slice a1 ((words x).length) ac1, .slice a2 1 ac2, .bool false, .slice a3 0 ac3, .slice a4 1 ac4]), (g4, [.bool false, .slice none 0 0, .slice none 0 0, .bool false, .slice none 0 0, .slice none 0 0]), (g2, [.bool true, .slice a1 ((words x).length) ac1, .slice a2 1 ac2, .bool false, .slice a3 0 ac3, .slice a4 1 ac4])] [(a4, [1]), (a3, []), (a2, [1]), (a1, words x)] []) (by kernel_rfl) ?_
        replace hS := hS.drew
        refine any_take (v := .pointer (some ⟨g2, 0, none⟩)) hA 0 rfl rfl rfl rfl (by kernel_rfl) (by kernel_rfl) (by kernel_rfl) (fun c a w h => hP c a _ _ w h) (hS.part (.cons_cons _ (.cons_cons _ (.cons_cons _ .slnil))) ⟨⟨0, rfl⟩, ⟨⟨1, rfl⟩, ⟨⟨2, rfl⟩, ⟨⟨3, rfl⟩, trivial⟩⟩⟩⟩ .slnil) (fun w1 hS => does_field fld_26_0 rfl rfl) ?_
        intro a hA
        refine any_take (v := .pointer (some ⟨g2, 0, none⟩)) hA 1 rfl rfl rfl rfl (by kernel_rfl) (by kernel_rfl) (by kernel_rfl) (fun c a w h => hP c a _ _ w h) (hS.part (.cons_cons _ (.cons_cons _ (.cons_cons _ .slnil))) ⟨⟨0, rfl⟩, ⟨⟨1, rfl⟩, ⟨⟨2, rfl⟩, ⟨⟨3, rfl⟩, trivial⟩⟩⟩⟩ .slnil) (fun w1 hS => does_field fld_24_0 rfl rfl) ?_
        intro a hA
        refine any_take hA 2 rfl rfl rfl rfl (by kernel_rfl) (by kernel_rfl) (by kernel_rfl) (fun c a w h => hP c a _ _ w h) (hS.part (.cons_cons _ (.cons_cons _ (.cons_cons _ .slnil))) ⟨⟨0, rfl⟩, ⟨⟨1, rfl⟩, ⟨⟨2, rfl⟩, ⟨⟨3, rfl⟩, trivial⟩⟩⟩⟩ .slnil) (fun w1 hS => does_load1 hS is1_4 rfl 2 rfl rfl) ?_
        intro a hA
        refine any_many (rs := [3, 5, 7]) (by kernel_rfl) (by simp) ⟨?_, ?_, ?_, trivial⟩
        · refine op_newU (us := [1]) (t := 41) (m := 1) hA hS 3 rfl rfl rfl rfl (does_buildSlice rfl (by kernel_rfl)) (by simp [Dig]) ?_
          intro g90 w91 hS
          refine ⟨(hS.part (.cons_cons _ (.cons_cons _ (.cons_cons _ .slnil))) ⟨⟨1, rfl⟩, ⟨⟨2, rfl⟩, ⟨⟨3, rfl⟩, ⟨⟨4, rfl⟩, trivial⟩⟩⟩⟩ .slnil), ?_⟩
          intro a hA
          refine any_take (v := .agg #[.bool true, .slice none 0 0, .slice (some ⟨g90, 0, none⟩) 1 1]) hA 4 rfl rfl rfl rfl (by kernel_rfl) (by kernel_rfl) (by kernel_rfl) (fun c a w h => hP c a _ _ w h) (hS.part (.cons_cons _ (.cons_cons _ (.cons_cons _ .slnil))) ⟨⟨1, rfl⟩, ⟨⟨2, rfl⟩, ⟨⟨3, rfl⟩, ⟨⟨4, rfl⟩, trivial⟩⟩⟩⟩ .slnil) (fun w1 hS => does_build rfl (fun w => by kernel_rfl)) ?_
          intro a hA
          refine any_many (rs := [5, 7]) (by kernel_rfl) (by simp) ⟨?_, ?_, trivial⟩
          · refine op_call hA 5 rfl rfl rfl rfl (enters_func  rfl rfl (fun w => by kernel_rfl)) (rzero_any _) ?_
            rintro _ w96 ⟨f92_1, f92_c1, f92_2, f92_c2, rfl, hs93, hs94, hb95⟩
            replace hS := hS.call hb95
            replace hS := hS.addR hs93.rd
            replace hS := hS.addR hs94.rd
            refine ⟨_, rfl, (hS.part (.cons_cons _ (.cons_cons _ (.cons_cons _ .slnil))) ⟨⟨3, rfl⟩, ⟨⟨4, rfl⟩, ⟨⟨5, rfl⟩, ⟨⟨6, rfl⟩, trivial⟩⟩⟩⟩ .slnil), ?_⟩
            intro a hA
            refine any_take (v := .agg #[.bool true, .slice none 0 0, .slice (some ⟨g90, 0, none⟩) 1 1, .bool false, .slice f92_1 0 f92_c1, .slice f92_2 1 f92_c2]) hA 6 rfl rfl rfl rfl (by kernel_rfl) (by kernel_rfl) (by kernel_rfl) (fun c a w h => hP c a _ _ w h) (hS.part (.cons_cons _ (.cons_cons _ (.cons_cons _ .slnil))) ⟨⟨3, rfl⟩, ⟨⟨4, rfl⟩, ⟨⟨5, rfl⟩, ⟨⟨6, rfl⟩, trivial⟩⟩⟩⟩ .slnil) (fun w1 hS => does_build rfl (fun w => by kernel_rfl)) ?_
            intro a hA
            refine any_one (by kernel_rfl) (op_new (vs := [.bool false, .slice none 0 0, .slice none 0 0, .bool false, .slice none 0 0, .slice none 0 0]) (t := 26) hA hS 7 rfl rfl rfl rfl (fun g => .pointer (some ⟨g, 0, none⟩)) (does_alloc (z := .agg #[.bool false, .slice none 0 0, .slice none 0 0, .bool false, .slice none 0 0, .slice none 0 0]) (by kernel_rfl) rfl) rfl ?_)
            intro g97 w98 hS
            refine ⟨(hS.part (.cons _ (.cons_cons _ (.cons_cons _ (.cons_cons _ .slnil)))) ⟨⟨3, rfl⟩, ⟨⟨4, rfl⟩, ⟨⟨5, rfl⟩, ⟨⟨6, rfl⟩, trivial⟩⟩⟩⟩ .slnil), ?_⟩
            intro a hA
            refine any_one (by kernel_rfl) (op_store (us := [.bool true, .slice none 0 0, .slice (some ⟨g90, 0, none⟩) 1 1, .bool false, .slice f92_1 0 f92_c1, .slice f92_2 1 f92_c2]) hA hS 8 rfl rfl rfl (sets_store (cs := [.bool true, .slice none 0 0, .slice (some ⟨g90, 0, none⟩) 1 1, .bool false, .slice f92_1 0 f92_c1, .slice f92_2 1 f92_c2]) rfl rfl rfl (by kernel_rfl) hS 0 rfl rfl rfl) 0 rfl rfl rfl rfl ?_)
            intro w99 hS
            refine ⟨(hS.part (.cons _ (.cons_cons _ (.cons_cons _ (.cons_cons _ .slnil)))) ⟨⟨3, rfl⟩, ⟨⟨4, rfl⟩, ⟨⟨5, rfl⟩, ⟨⟨6, rfl⟩, trivial⟩⟩⟩⟩ .slnil), ?_⟩
            refine any_end (by kernel_rfl) ?_
            refine hJ42 _ _ ⟨g97, g90, f92_1, f92_c1, f92_2, f92_c2, hA.keep _ ⟨rfl, rfl, rfl, rfl, rfl, rfl, rfl, rfl, rfl, rfl, rfl, rfl, rfl, rfl, rfl, rfl, rfl, rfl, rfl, rfl, rfl, rfl, rfl, rfl, rfl, trivial⟩, ((hS.pickR [(f92_2, [1]), (f92_1, []), (some ⟨g90, 0, none⟩, [1]), (a4, [1]), (a3, []), (a2, [1]), (a1, words x)] ⟨⟨0, rfl⟩, ⟨⟨1, rfl⟩, ⟨⟨2, rfl⟩, ⟨⟨3, rfl⟩, ⟨⟨4, rfl⟩, ⟨⟨5, rfl⟩, ⟨⟨6, rfl⟩, trivial⟩⟩⟩⟩⟩⟩⟩).pickL [(g97, [.bool true, .slice none 0 0, .slice (some ⟨g90, 0, none⟩) 1 1, .bool false, .slice f92_1 0 f92_c1, .slice f92_2 1 f92_c2]), (g7, [.bool true, .slice a1 ((words x).length) ac1, .slice a2 1 ac2, .bool false, .slice a3 0 ac3, .slice a4 1 ac4]), (g4, [.bool false, .slice none 0 0, .slice none 0 0, .bool false, .slice none 0 0, .slice none 0 0]), (g2, [.bool true, .slice a1 ((words x).length) ac1, .slice a2 1 ac2, .bool false, .slice a3 0 ac3, .slice a4 1 ac4])] [0, 1, 2, 3] rfl (by decide)), hs94.nil, hs94.cap, hs93.nil, hs93.cap⟩
          · refine op_new (vs := [.bool false, .slice none 0 0, .slice none 0 0, .bool false, .slice none 0 0, .slice none 0 0]) (t := 26) hA hS 7 rfl rfl rfl rfl (fun g => .pointer (some ⟨g, 0, none⟩)) (does_alloc (z := .agg #[.bool false, .slice none 0 0, .slice none 0 0, .bool false, .slice none 0 0, .slice none 0 0]) (by kernel_rfl) rfl) rfl ?_
            intro g100 w101 hS
            refine ⟨(hS.part (.cons _ (.cons_cons _ (.cons_cons _ (.cons_cons _ .slnil)))) ⟨⟨1, rfl⟩, ⟨⟨2, rfl⟩, ⟨⟨3, rfl⟩, ⟨⟨4, rfl⟩, trivial⟩⟩⟩⟩ .slnil), ?_⟩
            intro a hA
            refine any_one (by kernel_rfl) (op_call hA 5 rfl rfl rfl rfl (enters_func  rfl rfl (fun w => by kernel_rfl)) (rzero_any _) ?_)
            rintro _ w106 ⟨f102_1, f102_c1, f102_2, f102_c2, rfl, hs103, hs104, hb105⟩
            replace hS := hS.call hb105
            replace hS := hS.addR hs103.rd
            replace hS := hS.addR hs104.rd
            refine ⟨_, rfl, (hS.part (.cons _ (.cons_cons _ (.cons_cons _ (.cons_cons _ .slnil)))) ⟨⟨3, rfl⟩, ⟨⟨4, rfl⟩, ⟨⟨5, rfl⟩, ⟨⟨6, rfl⟩, trivial⟩⟩⟩⟩ .slnil), ?_⟩
            intro a hA
            refine any_take (v := .agg #[.bool true, .slice none 0 0, .slice (some ⟨g90, 0, none⟩) 1 1, .bool false, .slice f102_1 0 f102_c1, .slice f102_2 1 f102_c2]) hA 6 rfl rfl rfl rfl (by kernel_rfl) (by kernel_rfl) (by kernel_rfl) (fun c a w h => hP c a _ _ w h) (hS.part (.cons _ (.cons_cons _ (.cons_cons _ (.cons_cons _ .slnil)))) ⟨⟨3, rfl⟩, ⟨⟨4, rfl⟩, ⟨⟨5, rfl⟩, ⟨⟨6, rfl⟩, trivial⟩⟩⟩⟩ .slnil) (fun w1 hS => does_build rfl (fun w => by kernel_rfl)) ?_
            intro a hA
            refine any_one (by kernel_rfl) (op_store (us := [.bool true, .slice none 0 0, .slice (some ⟨g90, 0, none⟩) 1 1, .bool false, .slice f102_1 0 f102_c1, .slice f102_2 1 f102_c2]) hA hS 8 rfl rfl rfl (sets_store (cs := [.bool true, .slice none 0 0, .slice (some ⟨g90, 0, none⟩) 1 1, .bool false, .slice f102_1 0 f102_c1, .slice f102_2 1 f102_c2]) rfl rfl rfl (by kernel_rfl) hS 0 rfl rfl rfl) 0 rfl rfl rfl rfl ?_)
            intro w107 hS
            refine ⟨(hS.part (.cons _ (.cons_cons _ (.cons_cons _ (.cons_cons _ .slnil)))) ⟨⟨3, rfl⟩, ⟨⟨4, rfl⟩, ⟨⟨5, rfl⟩, ⟨⟨6, rfl⟩, trivial⟩⟩⟩⟩ .slnil), ?_⟩
            refine any_end (by kernel_rfl) ?_
            refine hJ42 _ _ ⟨g100, g90, f102_1, f102_c1, f102_2, f102_c2, hA.keep _ ⟨rfl, rfl, rfl, rfl, rfl, rfl, rfl, rfl, rfl, rfl, rfl, rfl, rfl, rfl, rfl, rfl, rfl, rfl, rfl, rfl, rfl, rfl, rfl, rfl, rfl, trivial⟩, ((hS.pickR [(f102_2, [1]), (f102_1, []), (some ⟨g90, 0, none⟩, [1]), (a4, [1]), (a3, []), (a2, [1]), (a1, words x)] ⟨⟨0, rfl⟩, ⟨⟨1, rfl⟩, ⟨⟨2, rfl⟩, ⟨⟨3, rfl⟩, ⟨⟨4, rfl⟩, ⟨⟨5, rfl⟩, ⟨⟨6, rfl⟩, trivial⟩⟩⟩⟩⟩⟩⟩).pickL [(g100, [.bool true, .slice none 0 0, .slice (some ⟨g90, 0, none⟩) 1 1, .bool false, .slice f102_1 0 f102_c1, .slice f102_2 1 f102_c2]), (g7, [.bool true, .slice a1 ((words x).length) ac1, .slice a2 1 ac2, .bool false, .slice a3 0 ac3, .slice a4 1 ac4]), (g4, [.bool false, .slice none 0 0, .slice none 0 0, .bool false, .slice none 0 0, .slice none 0 0]), (g2, [.bool true, .slice a1 ((words x).length) ac1, .slice a2 1 ac2, .bool false, .slice a3 0 ac3, .slice a4 1 ac4])] [0, 1, 2, 3] rfl (by decide)), hs104.nil, hs104.cap, hs103.nil, hs103.cap⟩
        · refine op_call hA 5 rfl rfl rfl rfl (enters_func  rfl rfl (fun w => by kernel_rfl)) (rzero_any _) ?_
          rintro _ w112 ⟨f108_1, f108_c1, f108_2, f108_c2, rfl, hs109, hs110, hb111⟩
          replace hS := hS.call hb111
          replace hS := hS.addR hs109.rd
          replace hS := hS.addR hs110.rd
          refine ⟨_, rfl, (hS.part (.cons_cons _ (.cons_cons _ (.cons_cons _ .slnil))) ⟨⟨2, rfl⟩, ⟨⟨3, rfl⟩, ⟨⟨4, rfl⟩, ⟨⟨5, rfl⟩, trivial⟩⟩⟩⟩ .slnil), ?_⟩
          intro a hA
          refine any_many (rs := [3, 7]) (by kernel_rfl) (by simp) ⟨?_, ?_, trivial⟩
          · refine op_newU (us := [1]) (t := 41) (m := 1) hA hS 3 rfl rfl rfl rfl (does_buildSlice rfl (by kernel_rfl)) (by simp [Dig]) ?_
            intro g113 w114 hS
            refine ⟨(hS.part (.cons_cons _ (.cons_cons _ (.cons_cons _ .slnil))) ⟨⟨3, rfl⟩, ⟨⟨4, rfl⟩, ⟨⟨5, rfl⟩, ⟨⟨6, rfl⟩, trivial⟩⟩⟩⟩ .slnil), ?_⟩
            intro a hA
            refine any_take (v := .agg #[.bool true, .slice none 0 0, .slice (some ⟨g113, 0, none⟩) 1 1]) hA 4 rfl rfl rfl rfl (by kernel_rfl) (by kernel_rfl) (by kernel_rfl) (fun c a w h => hP c a _ _ w h) (hS.part (.cons_cons _ (.cons_cons _ (.cons_cons _ .slnil))) ⟨⟨3, rfl⟩, ⟨⟨4, rfl⟩, ⟨⟨5, rfl⟩, ⟨⟨6, rfl⟩, trivial⟩⟩⟩⟩ .slnil) (fun w1 hS => does_build rfl (fun w => by kernel_rfl)) ?_
            intro a hA
            refine any_take (v := .agg #[.bool true, .slice none 0 0, .slice (some ⟨g113, 0, none⟩) 1 1, .bool false, .slice f108_1 0 f108_c1, .slice f108_2 1 f108_c2]) hA 6 rfl rfl rfl rfl (by kernel_rfl) (by kernel_rfl) (by kernel_rfl) (fun c a w h => hP c a _ _ w h) (hS.part (.cons_cons _ (.cons_cons _ (.cons_cons _ .slnil))) ⟨⟨3, rfl⟩, ⟨⟨4, rfl⟩, ⟨⟨5, rfl⟩, ⟨⟨6, rfl⟩, trivial⟩⟩⟩⟩ .slnil) (fun w1 hS => does_build rfl (fun w => by kernel_rfl)) ?_
            intro a hA
            refine any_one (by kernel_rfl) (op_new (vs := [.bool false, .slice none 0 0, .slice none 0 0, .bool false, .slice none 0 0, .slice none 0 0]) (t := 26) hA hS 7 rfl rfl rfl rfl (fun g => .pointer (some ⟨g, 0, none⟩)) (does_alloc (z := .agg #[.bool false, .slice none 0 0, .slice none 0 0, .bool false, .slice none 0 0, .slice none 0 0]) (by kernel_rfl) rfl) rfl ?_)
            intro g115 w116 hS
            refine ⟨(hS.part (.cons _ (.cons_cons _ (.cons_cons _ (.cons_cons _ .slnil)))) ⟨⟨3, rfl⟩, ⟨⟨4, rfl⟩, ⟨⟨5, rfl⟩, ⟨⟨6, rfl⟩, trivial⟩⟩⟩⟩ .slnil), ?_⟩
            intro a hA
            refine any_one (by kernel_rfl) (op_store (us := [.bool true, .slice none 0 0, .slice (some ⟨g113, 0, none⟩) 1 1, .bool false, .slice f108_1 0 f108_c1, .slice f108_2 1 f108_c2]) hA hS 8 rfl rfl rfl (sets_store (cs := [.bool true, .slice none 0 0, .slice (some ⟨g113, 0, none⟩) 1 1, .bool false, .slice f108_1 0 f108_c1, .slice f108_2 1 f108_c2]) rfl rfl rfl (by kernel_rfl) hS 0 rfl rfl rfl) 0 rfl rfl rfl rfl ?_)
            intro w117 hS
            refine ⟨(hS.part (.cons _ (.cons_cons _ (.cons_cons _ (.cons_cons _ .slnil)))) ⟨⟨3, rfl⟩, ⟨⟨4, rfl⟩, ⟨⟨5, rfl⟩, ⟨⟨6, rfl⟩, trivial⟩⟩⟩⟩ .slnil), ?_⟩
            refine any_end (by kernel_rfl) ?_
            refine hJ42 _ _ ⟨g115, g113, f108_1, f108_c1, f108_2, f108_c2, hA.keep _ ⟨rfl, rfl, rfl, rfl, rfl, rfl, rfl, rfl, rfl, rfl, rfl, rfl, rfl, rfl, rfl, rfl, rfl, rfl, rfl, rfl, rfl, rfl, rfl, rfl, rfl, trivial⟩, ((hS.pickR [(f108_2, [1]), (f108_1, []), (some ⟨g113, 0, none⟩, [1]), (a4, [1]), (a3, []), (a2, [1]), (a1, words x)] ⟨⟨1, rfl⟩, ⟨⟨2, rfl⟩, ⟨⟨0, rfl⟩, ⟨⟨3, rfl⟩, ⟨⟨4, rfl⟩, ⟨⟨5, rfl⟩, ⟨⟨6, rfl⟩, trivial⟩⟩⟩⟩⟩⟩⟩).pickL [(g115, [.bool true, .slice none 0 0, .slice (some ⟨g113, 0, none⟩) 1 1, .bool false, .slice f108_1 0 f108_c1, .slice f108_2 1 f108_c2]), (g7, [.bool true, .slice a1 ((words x).length) ac1, .slice a2 1 ac2, .bool false, .slice a3 0 ac3, .slice a4 1 ac4]), (g4, [.bool false, .slice none 0 0, .slice none 0 0, .bool false, .slice none 0 0, .slice none 0 0]), (g2, [.bool true, .slice a1 ((words x).length) ac1, .slice a2 1 ac2, .bool false, .slice a3 0 ac3, .slice a4 1 ac4])] [0, 1, 2, 3] rfl (by decide)), hs110.nil, hs110.cap, hs109.nil, hs109.cap⟩
          · refine op_new (vs := [.bool false, .slice none 0 0, .slice none 0 0, .bool false, .slice none 0 0, .slice none 0 0]) (t := 26) hA hS 7 rfl rfl rfl rfl (fun g => .pointer (some ⟨g, 0, none⟩)) (does_alloc (z := .agg #[.bool false, .slice none 0 0, .slice none 0 0, .bool false, .slice none 0 0, .slice none 0 0]) (by kernel_rfl) rfl) rfl ?_
            intro g118 w119 hS
            refine ⟨(hS.part (.cons _ (.cons_cons _ (.cons_cons _ (.cons_cons _ .slnil)))) ⟨⟨2, rfl⟩, ⟨⟨3, rfl⟩, ⟨⟨4, rfl⟩, ⟨⟨5, rfl⟩, trivial⟩⟩⟩⟩ .slnil), ?_⟩
            intro a hA
            refine any_one (by kernel_rfl) (op_newU (us := [1]) (t := 41) (m := 1) hA hS 3 rfl rfl rfl rfl (does_buildSlice rfl (by kernel_rfl)) (by simp [Dig]) ?_)
            intro g120 w121 hS
            refine ⟨(hS.part (.cons _ (.cons_cons _ (.cons_cons _ (.cons_cons _ .slnil)))) ⟨⟨3, rfl⟩, ⟨⟨4, rfl⟩, ⟨⟨5, rfl⟩, ⟨⟨6, rfl⟩, trivial⟩⟩⟩⟩ .slnil), ?_⟩
            intro a hA
            refine any_take (v := .agg #[.bool true, .slice none 0 0, .slice (some ⟨g120, 0, none⟩) 1 1]) hA 4 rfl rfl rfl rfl (by kernel_rfl) (by kernel_rfl) (by kernel_rfl) (fun c a w h => hP c a _ _ w h) (hS.part (.cons _ (.cons_cons _ (.cons_cons _ (.cons_cons _ .slnil)))) ⟨⟨3, rfl⟩, ⟨⟨4, rfl⟩, ⟨⟨5, rfl⟩, ⟨⟨6, rfl⟩, trivial⟩⟩⟩⟩ .slnil) (fun w1 hS => does_build rfl (fun w => by kernel_rfl)) ?_
            intro a hA
            refine any_take (v := .agg #[.bool true, .slice none 0 0, .slice (some ⟨g120, 0, none⟩) 1 1, .bool false, .slice f108_1 0 f108_c1, .slice f108_2 1 f108_c2]) hA 6 rfl rfl rfl rfl (by kernel_rfl) (by kernel_rfl) (by kernel_rfl) (fun c a w h => hP c a _ _ w h) (hS.part (.cons _ (.cons_cons _ (.cons_cons _ (.cons_cons _ .slnil)))) ⟨⟨3, rfl⟩, ⟨⟨4, rfl⟩, ⟨⟨5, rfl⟩, ⟨⟨6, rfl⟩, trivial⟩⟩⟩⟩ .slnil) (fun w1 hS => does_build rfl (fun w => by kernel_rfl)) ?_
            intro a hA
            refine any_one (by kernel_rfl) (op_store (us := [.bool true, .slice none 0 0, .slice (some ⟨g120, 0, none⟩) 1 1, .bool false, .slice f108_1 0 f108_c1, .slice f108_2 1 f108_c2]) hA hS 8 rfl rfl rfl (sets_store (cs := [.bool true, .slice none 0 0, .slice (some ⟨g120, 0, none⟩) 1 1, .bool false, .slice f108_1 0 f108_c1, .slice f108_2 1 f108_c2]) rfl rfl rfl (by kernel_rfl) hS 0 rfl rfl rfl) 0 rfl rfl rfl rfl ?_)
            intro w122 hS
            refine ⟨(hS.part (.cons _ (.cons_cons _ (.cons_cons _ (.cons_cons _ .slnil)))) ⟨⟨3, rfl⟩, ⟨⟨4, rfl⟩, ⟨⟨5, rfl⟩, ⟨⟨6, rfl⟩, trivial⟩⟩⟩⟩ .slnil), ?_⟩
            refine any_end (by kernel_rfl) ?_
            refine hJ42 _ _ ⟨g118, g120, f108_1, f108_c1, f108_2, f108_c2, hA.keep _ ⟨rfl, rfl, rfl, rfl, rfl, rfl, rfl, rfl, rfl, rfl, rfl, rfl, rfl, rfl, rfl, rfl, rfl, rfl, rfl, rfl, rfl, rfl, rfl, rfl, rfl, trivial⟩, ((hS.pickR [(f108_2, [1]), (f108_1, []), (some ⟨g120, 0, none⟩, [1]), (a4, [1]), (a3, []), (a2, [1]), (a1, words x)] ⟨⟨1, rfl⟩, ⟨⟨2, rfl⟩, ⟨⟨0, rfl⟩, ⟨⟨3, rfl⟩, ⟨⟨4, rfl⟩, ⟨⟨5, rfl⟩, ⟨⟨6, rfl⟩, trivial⟩⟩⟩⟩⟩⟩⟩).pickL [(g118, [.bool true, .slice none 0 0, .slice (some ⟨g120, 0, none⟩) 1 1, .bool false, .slice f108_1 0 f108_c1, .slice f108_2 1 f108_c2]), (g7, [.bool true, .slice a1 ((words x).length) ac1, .slice a2 1 ac2, .bool false, .slice a3 0 ac3, .slice a4 1 ac4]), (g4, [.bool false, .slice none 0 0, .slice none 0 0, .bool false, .slice none 0 0, .slice none 0 0]), (g2, [.bool true, .slice a1 ((words x).length) ac1, .slice a2 1 ac2, .bool false, .slice a3 0 ac3, .slice a4 1 ac4])] [0, 1, 2, 3] rfl (by decide)), hs110.nil, hs110.cap, hs109.nil, hs109.cap⟩
        · refine op_new (vs := [.bool false, .slice none 0 0, .slice none 0 0, .bool false, .slice none 0 0, .slice none 0 0]) (t := 26) hA hS 7 rfl rfl rfl rfl (fun g => .pointer (some ⟨g, 0, none⟩)) (does_alloc (z := .agg #[.bool false, .slice none 0 0, .slice none 0 0, .bool false, .slice none 0 0, .slice none 0 0]) (by kernel_rfl) rfl) rfl ?_
          intro g123 w124 hS
          refine ⟨(hS.part (.cons _ (.cons_cons _ (.cons_cons _ (.cons_cons _ .slnil)))) ⟨⟨0, rfl⟩, ⟨⟨1, rfl⟩, ⟨⟨2, rfl⟩, ⟨⟨3, rfl⟩, trivial⟩⟩⟩⟩ .slnil), ?_⟩
          intro a hA
          refine any_many (rs := [3, 5]) (by kernel_rfl) (by simp) ⟨?_, ?_, trivial⟩
          · refine op_newU (us := [1]) (t := 41) (m := 1) hA hS 3 rfl rfl rfl rfl (does_buildSlice rfl (by kernel_rfl)) (by simp [Dig]) ?_
            intro g125 w126 hS
            refine ⟨(hS.part (.cons _ (.cons_cons _ (.cons_cons _ (.cons_cons _ .slnil)))) ⟨⟨1, rfl⟩, ⟨⟨2, rfl⟩, ⟨⟨3, rfl⟩, ⟨⟨4, rfl⟩, trivial⟩⟩⟩⟩ .slnil), ?_⟩
            intro a hA
            refine any_take (v := .agg #[.bool true, .slice none 0 0, .slice (some ⟨g125, 0, none⟩) 1 1]) hA 4 rfl rfl rfl rfl (by kernel_rfl) (by kernel_rfl) (by kernel_rfl) (fun c a w h => hP c a _ _ w h) (hS.part (.cons _ (.cons_cons _ (.cons_cons _ (.cons_cons _ .slnil)))) ⟨⟨1, rfl⟩, ⟨⟨2, rfl⟩, ⟨⟨3, rfl⟩, ⟨⟨4, rfl⟩, trivial⟩⟩⟩⟩ .slnil) (fun w1 hS => does_build rfl (fun w => by kernel_rfl)) ?_
            intro a hA
            refine any_one (by kernel_rfl) (op_call hA 5 rfl rfl rfl rfl (enters_func  rfl rfl (fun w => by kernel_rfl)) (rzero_any _) ?_)
            rintro _ w131 ⟨f127_1, f127_c1, f127_2, f127_c2, rfl, hs128, hs129, hb130⟩
            replace hS := hS.call hb130
            replace hS := hS.addR hs128.rd
            replace hS := hS.addR hs129.rd
            refine ⟨_, rfl, (hS.part (.cons _ (.cons_cons _ (.cons_cons _ (.cons_cons _ .slnil)))) ⟨⟨3, rfl⟩, ⟨⟨4, rfl⟩, ⟨⟨5, rfl⟩, ⟨⟨6, rfl⟩, trivial⟩⟩⟩⟩ .slnil), ?_⟩
            intro a hA
            refine any_take (v := .agg #[.bool true, .slice none 0 0, .slice (some ⟨g125, 0, none⟩) 1 1, .bool false, .slice f127_1 0 f127_c1, .slice f127_2 1 f127_c2]) hA 6 rfl rfl rfl rfl (by kernel_rfl) (by kernel_rfl) (by kernel_rfl) (fun c a w h => hP c a _ _ w h) (hS.part (.cons _ (.cons_cons _ (.cons_cons _ (.cons_cons _ .slnil)))) ⟨⟨3, rfl⟩, ⟨⟨4, rfl⟩, ⟨⟨5, rfl⟩, ⟨⟨6, rfl⟩, trivial⟩⟩⟩⟩ .slnil) (fun w1 hS => does_build rfl (fun w => by kernel_rfl)) ?_
            intro a hA
            refine any_one (by kernel_rfl) (op_store (us := [.bool true, .slice none 0 0, .slice (some ⟨g125, 0, none⟩) 1 1, .bool false, .slice f127_1 0 f127_c1, .slice f127_2 1 f127_c2]) hA hS 8 rfl rfl rfl (sets_store (cs := [.bool true, .slice none 0 0, .slice (some ⟨g125, 0, none⟩) 1 1, .bool false, .slice f127_1 0 f127_c1, .slice f127_2 1 f127_c2]) rfl rfl rfl (by kernel_rfl) hS 0 rfl rfl rfl) 0 rfl rfl rfl rfl ?_)
            intro w132 hS
            refine ⟨(hS.part (.cons _ (.cons_cons _ (.cons_cons _ (.cons_cons _ .slnil)))) ⟨⟨3, rfl⟩, ⟨⟨4, rfl⟩, ⟨⟨5, rfl⟩, ⟨⟨6, rfl⟩, trivial⟩⟩⟩⟩ .slnil), ?_⟩
            refine any_end (by kernel_rfl) ?_
            refine hJ42 _ _ ⟨g123, g125, f127_1, f127_c1, f127_2, f127_c2, hA.keep _ ⟨rfl, rfl, rfl, rfl, rfl, rfl, rfl, rfl, rfl, rfl, rfl, rfl, rfl, rfl, rfl, rfl, rfl, rfl, rfl, rfl, rfl, rfl, rfl, rfl, rfl, trivial⟩, ((hS.pickR [(f127_2, [1]), (f127_1, []), (some ⟨g125, 0, none⟩, [1]), (a4, [1]), (a3, []), (a2, [1]), (a1, words x)] ⟨⟨0, rfl⟩, ⟨⟨1, rfl⟩, ⟨⟨2, rfl⟩, ⟨⟨3, rfl⟩, ⟨⟨4, rfl⟩, ⟨⟨5, rfl⟩, ⟨⟨6, rfl⟩, trivial⟩⟩⟩⟩⟩⟩⟩).pickL [(g123, [.bool true, .slice none 0 0, .slice (some ⟨g125, 0, none⟩) 1 1, .bool false, .slice f127_1 0 f127_c1, .slice f127_2 1 f127_c2]), (g7, [.bool true, .slice a1 ((words x).length) ac1, .slice a2 1 ac2, .bool false, .slice a3 0 ac3, .slice a4 1 ac4]), (g4, [.bool false, .slice none 0 0, .slice none 0 0, .bool false, .slice none 0 0, .slice none 0 0]), (g2, [.bool true, .slice a1 ((words x).length) ac1, .slice a2 1 ac2, .bool false, .slice a3 0 ac3, .slice a4 1 ac4])] [0, 1, 2, 3] rfl (by decide)), hs129.nil, hs129.cap, hs128.nil, hs128.cap⟩
          · refine op_call hA 5 rfl rfl rfl rfl (enters_func  rfl rfl (fun w => by kernel_rfl)) (rzero_any _) ?_
            rintro _ w137 ⟨f133_1, f133_c1, f133_2, f133_c2, rfl, hs134, hs135, hb136⟩
            replace hS := hS.call hb136
            replace hS := hS.addR hs134.rd
            replace hS := hS.addR hs135.rd
            refine ⟨_, rfl, (hS.part (.cons _ (.cons_cons _ (.cons_cons _ (.cons_cons _ .slnil)))) ⟨⟨2, rfl⟩, ⟨⟨3, rfl⟩, ⟨⟨4, rfl⟩, ⟨⟨5, rfl⟩, trivial⟩⟩⟩⟩ .slnil), ?_⟩
            intro a hA
            refine any_one (by kernel_rfl) (op_newU (us := [1]) (t := 41) (m := 1) hA hS 3 rfl rfl rfl rfl (does_buildSlice rfl (by kernel_rfl)) (by simp [Dig]) ?_)
            intro g138 w139 hS
            refine ⟨(hS.part (.cons _ (.cons_cons _ (.cons_cons _ (.cons_cons _ .slnil)))) ⟨⟨3, rfl⟩, ⟨⟨4, rfl⟩, ⟨⟨5, rfl⟩, ⟨⟨6, rfl⟩, trivial⟩⟩⟩⟩ .slnil), ?_⟩
            intro a hA
            refine any_take (v := .agg #[.bool true, .slice none 0 0, .slice (some ⟨g138, 0, none⟩) 1 1]) hA 4 rfl rfl rfl rfl (by kernel_rfl) (by kernel_rfl) (by kernel_rfl) (fun c a w h => hP c a _ _ w h) (hS.part (.cons _ (.cons_cons _ (.cons_cons _ (.cons_cons _ .slnil)))) ⟨⟨3, rfl⟩, ⟨⟨4, rfl⟩, ⟨⟨5, rfl⟩, ⟨⟨6, rfl⟩, trivial⟩⟩⟩⟩ .slnil) (fun w1 hS => does_build rfl (fun w => by kernel_rfl)) ?_
            intro a hA
            refine any_take (v := .agg #[.bool true, .slice none 0 0, .slice (some ⟨g138, 0, none⟩) 1 1, .bool false, .slice f133_1 0 f133_c1, .slice f133_2 1 f133_c2]) hA 6 rfl rfl rfl rfl (by kernel_rfl) (by kernel_rfl) (by kernel_rfl) (fun c a w h => hP c a _ _ w h) (hS.part (.cons _ (.cons_cons _ (.cons_cons _ (.cons_cons _ .slnil)))) ⟨⟨3, rfl⟩, ⟨⟨4, rfl⟩, ⟨⟨5, rfl⟩, ⟨⟨6, rfl⟩, trivial⟩⟩⟩⟩ .slnil) (fun w1 hS => does_build rfl (fun w => by kernel_rfl)) ?_
            intro a hA
            refine any_one (by kernel_rfl) (op_store (us := [.bool true, .slice none 0 0, .slice (some ⟨g138, 0, none⟩) 1 1, .bool false, .slice f133_1 0 f133_c1, .slice f133_2 1 f133_c2]) hA hS 8 rfl rfl rfl (sets_store (cs := [.bool true, .slice none 0 0, .slice (some ⟨g138, 0, none⟩) 1 1, .bool false, .slice f133_1 0 f133_c1, .slice f133_2 1 f133_c2]) rfl rfl rfl (by kernel_rfl) hS 0 rfl rfl rfl) 0 rfl rfl rfl rfl ?_)
            intro w140 hS
            refine ⟨(hS.part (.cons _ (.cons_cons _ (.cons_cons _ (.cons_cons _ .slnil)))) ⟨⟨3, rfl⟩, ⟨⟨4, rfl⟩, ⟨⟨5, rfl⟩, ⟨⟨6, rfl⟩, trivial⟩⟩⟩⟩ .slnil), ?_⟩
            refine any_end (by kernel_rfl) ?_
            refine hJ42 _ _ ⟨g123, g138, f133_1, f133_c1, f133_2, f133_c2, hA.keep _ ⟨rfl, rfl, rfl, rfl, rfl, rfl, rfl, rfl, rfl, rfl, rfl, rfl, rfl, rfl, rfl, rfl, rfl, rfl, rfl, rfl, rfl, rfl, rfl, rfl, rfl, trivial⟩, ((hS.pickR [(f133_2, [1]), (f133_1, []), (some ⟨g138, 0, none⟩, [1]), (a4, [1]), (a3, []), (a2, [1]), (a1, words x)] ⟨⟨1, rfl⟩, ⟨⟨2, rfl⟩, ⟨⟨0, rfl⟩, ⟨⟨3, rfl⟩, ⟨⟨4, rfl⟩, ⟨⟨5, rfl⟩, ⟨⟨6, rfl⟩, trivial⟩⟩⟩⟩⟩⟩⟩).pickL [(g123, [.bool true, .slice none 0 0, .slice (some ⟨g138, 0, none⟩) 1 1, .bool false, .slice f133_1 0 f133_c1, .slice f133_2 1 f133_c2]), (g7, [.bool true, .slice a1 ((words x).length) ac1, .slice a2 1 ac2, .bool false, .slice a3 0 ac3, .slice a4 1 ac4]), (g4, [.bool false, .slice none 0 0, .slice none 0 0, .bool false, .slice none 0 0, .slice none 0 0]), (g2, [.bool true, .slice a1 ((words x).length) ac1, .slice a2 1 ac2, .bool false, .slice a3 0 ac3, .slice a4 1 ac4])] [0, 1, 2, 3] rfl (by decide)), hs135.nil, hs135.cap, hs134.nil, hs134.cap⟩
theorem lengthPE_any {w : World} {q : Q6} {a1 a2 a3 a4 : Option Addr} {ac1 ac2 ac3 ac4 : Nat} (ha : Nm w q a1 ac1 a2 ac2 a3 ac3 a4 ac4) (hl : LenQ q)  (hw : (want1 q != 0) = true) : Calls Try.prog 18 #[numV q a1 ac1 a2 ac2 a3 ac3 a4 ac4] w (AnsII w (lengthQ q)) := by
  have hS : St w w [] [(a4, q.q2), (a3, q.t2), (a2, q.q1), (a1, q.t1)] [] := ((((St.start w).addR ha.s1.rd).addR ha.s2.rd).addR ha.s3.rd).addR ha.s4.rd
  refine walk_of (l := [(0, .agg #[.bool q.b1, .slice a1 q.t1.length ac1, .slice a2 q.q1.length ac2, .bool q.b2, .slice a3 q.t2.length ac3, .slice a4 q.q2.length ac4])]) Try.func18 rfl Try.ntmps18 rfl rfl ?_
  intro Q hret hnorm hP a hA
  refine wp_seq_k (fun K1 hK1 => ?_)
  refine wp_region_lit ?_
  refine seq_new (vs := [.bool q.b1, .slice a1 q.t1.length ac1, .slice a2 q.q1.length ac2, .bool q.b2, .slice a3 q.t2.length ac3, .slice a4 q.q2.length ac4]) (t := 26) hA hS rfl rfl rfl (fun g => .pointer (some ⟨g, 0, none⟩)) (does_box rfl rfl) rfl ?_
  intro g2 w3 hS a hA
  refine seq_do hA rfl rfl rfl (does_assign rfl) ?_
  intro a hA
  refine seq_do hA rfl rfl rfl (does_assign rfl) ?_
  intro a hA
  refine seq_end ?_
  refine hK1 _ _ ?_
  refine wp_seq_k (fun K4 hK4 => ?_)
  refine wp_seq_k (fun K5 hK5 => ?_)
  refine wp_region_lit ?_
  refine seq_do (v := .agg #[.bool q.b1, .slice a1 q.t1.length ac1, .slice a2 q.q1.length ac2, .bool q.b2, .slice a3 q.t2.length ac3, .slice a4 q.q2.length ac4]) hA rfl rfl rfl (does_loadS hS isS_26 rfl 0 rfl (cs := [.bool q.b1, .slice a1 q.t1.length ac1, .slice a2 q.q1.length ac2, .bool q.b2, .slice a3 q.t2.length ac3, .slice a4 q.q2.length ac4]) rfl rfl) ?_
  intro a hA
  refine seq_new (vs := [.bool q.b1, .slice a1 q.t1.length ac1, .slice a2 q.q1.length ac2, .bool q.b2, .slice a3 q.t2.length ac3, .slice a4 q.q2.length ac4]) (t := 26) hA hS rfl rfl rfl (fun g => .slice (some ⟨g, 0, none⟩) 1 1) (does_buildSlice rfl (by kernel_rfl)) rfl ?_
  intro g6 w7 hS a hA
  refine seq_call hA rfl rfl rfl (enters_func  rfl rfl (fun w => by kernel_rfl)) (want1_any (show Nm _ q a1 ac1 a2 ac2 a3 ac3 a4 ac4 from ⟨⟨(hS.rd 3 rfl), ha.s1.nil, ha.s1.cap⟩, ⟨(hS.rd 2 rfl), ha.s2.nil, ha.s2.cap⟩, ⟨(hS.rd 1 rfl), ha.s3.nil, ha.s3.cap⟩, ⟨(hS.rd 0 rfl), ha.s4.nil, ha.s4.cap⟩⟩) hl (hS.blk 0 rfl) rfl) ?_
  rintro _ w9 ⟨rfl, hb8⟩
  replace hS := hS.call hb8
  refine ⟨_, rfl, ?_⟩
  intro a hA
  refine seq_do hA rfl rfl rfl (does_assign rfl) ?_
  intro a hA
  refine seq_end ?_
  refine hK5 _ _ ?_
  refine wp_seq_k (fun K10 hK10 => ?_)
  refine wp_region_lit ?_
  refine seq_do hA rfl rfl rfl (does_move rfl) ?_
  intro a hA
  refine seq_do (v := .bool true) hA rfl rfl rfl (does_bin rfl rfl (fun w => (bin_neq w).trans (by rw [show ((want1 q != 0)) = true from hw]))) ?_
  intro a hA
  refine seq_end ?_
  refine hK10 _ _ ?_
  refine wp_cond_true (hA.ev rfl) ?_
  refine wp_seq_k (fun K11 hK11 => ?_)
  refine wp_region_lit ?_
  refine seq_do hA rfl rfl rfl (does_move rfl) ?_
  intro a hA
  refine seq_do hA rfl rfl rfl (does_assign rfl) ?_
  intro a hA
  refine seq_do hA rfl rfl rfl (does_assign rfl) ?_
  intro a hA
  refine seq_end ?_
  refine hK11 _ _ ?_
  refine wp_ret ?_
  refine hret _ _ ?_
  refine ends (v := .tuple #[.int .i64 0, .int .i64 (want1 q)]) hA rfl (.cons (res_tmp rfl) (.cons (res_tmp rfl) .nil)) rfl ?_
  rw [lengthQ_err hw]
  exact ⟨rfl, hS.bel⟩
theorem lengthRE_any {w : World} {q : Q6} {a1 a2 a3 a4 : Option Addr} {ac1 ac2 ac3 ac4 : Nat} (ha : Nm w q a1 ac1 a2 ac2 a3 ac3 a4 ac4) (hl : LenQ q)  (hw : (want1 q != 0) = true) : Calls Try.prog 19 #[numV q a1 ac1 a2 ac2 a3 ac3 a4 ac4] w (AnsII w (lengthQ q)) := by
  have hS : St w w [] [(a4, q.q2), (a3, q.t2), (a2, q.q1), (a1, q.t1)] [] := ((((St.start w).addR ha.s1.rd).addR ha.s2.rd).addR ha.s3.rd).addR ha.s4.rd
  refine walk_of (l := [(0, .agg #[.bool q.b1, .slice a1 q.t1.length ac1, .slice a2 q.q1.length ac2, .bool q.b2, .slice a3 q.t2.length ac3, .slice a4 q.q2.length ac4])]) Try.func19 rfl Try.ntmps19 rfl rfl ?_
  intro Q hret hnorm hP a hA
  refine wp_seq_k (fun K1 hK1 => ?_)
  refine wp_region_lit ?_
  refine seq_new (vs := [.bool q.b1, .slice a1 q.t1.length ac1, .slice a2 q.q1.length ac2, .bool q.b2, .slice a3 q.t2.length ac3, .slice a4 q.q2.length ac4]) (t := 26) hA hS rfl rfl rfl (fun g => .pointer (some ⟨g, 0, none⟩)) (does_box rfl rfl) rfl ?_
  intro g2 w3 hS a hA
  refine seq_do hA rfl rfl rfl (does_assign rfl) ?_
  intro a hA
  refine seq_do hA rfl rfl rfl (does_assign rfl) ?_
  intro a hA
  refine seq_end ?_
  refine hK1 _ _ ?_
  refine wp_seq_k (fun K4 hK4 => ?_)
  refine wp_region_lit ?_
  refine seq_do (v := .agg #[.bool q.b1, .slice a1 q.t1.length ac1, .slice a2 q.q1.length ac2, .bool q.b2, .slice a3 q.t2.length ac3, .slice a4 q.q2.length ac4]) hA rfl rfl rfl (does_loadS hS isS_26 rfl 0 rfl (cs := [.bool q.b1, .slice a1 q.t1.length ac1, .slice a2 q.q1.length ac2, .bool q.b2, .slice a3 q.t2.length ac3, .slice a4 q.q2.length ac4]) rfl rfl) ?_
  intro a hA
  refine seq_new (vs := [.bool q.b1, .slice a1 q.t1.length ac1, .slice a2 q.q1.length ac2, .bool q.b2, .slice a3 q.t2.length ac3, .slice a4 q.q2.length ac4]) (t := 26) hA hS rfl rfl rfl (fun g => .slice (some ⟨g, 0, none⟩) 1 1) (does_buildSlice rfl (by kernel_rfl)) rfl ?_
  intro g5 w6 hS a hA
  refine seq_call hA rfl rfl rfl (enters_func  rfl rfl (fun w => by kernel_rfl)) (rcheck1_any (show Nm _ q a1 ac1 a2 ac2 a3 ac3 a4 ac4 from ⟨⟨(hS.rd 3 rfl), ha.s1.nil, ha.s1.cap⟩, ⟨(hS.rd 2 rfl), ha.s2.nil, ha.s2.cap⟩, ⟨(hS.rd 1 rfl), ha.s3.nil, ha.s3.cap⟩, ⟨(hS.rd 0 rfl), ha.s4.nil, ha.s4.cap⟩⟩) hl (hS.blk 0 rfl) rfl) ?_
  rintro _ w8 ⟨rfl, hb7⟩
  replace hS := hS.call hb7
  refine ⟨_, rfl, ?_⟩
  intro a hA
  refine seq_do hA rfl rfl rfl (does_assign rfl) ?_
  intro a hA
  refine seq_end ?_
  refine hK4 _ _ ?_
  refine wp_seq_k (fun K9 hK9 => ?_)
  refine wp_seq_k (fun K10 hK10 => ?_)
  refine wp_region_lit ?_
  refine seq_do hA rfl rfl rfl (does_move rfl) ?_
  intro a hA
  refine seq_do (v := .bool true) hA rfl rfl rfl (does_bin rfl rfl (fun w => (bin_neq w).trans (by rw [show ((want1 q != 0)) = true from hw]))) ?_
  intro a hA
  refine seq_end ?_
  refine hK10 _ _ ?_
  refine wp_cond_true (hA.ev rfl) ?_
  refine wp_seq_k (fun K11 hK11 => ?_)
  refine wp_region_lit ?_
  refine seq_do hA rfl rfl rfl (does_move rfl) ?_
  intro a hA
  refine seq_do hA rfl rfl rfl (does_assign rfl) ?_
  intro a hA
  refine seq_do hA rfl rfl rfl (does_assign rfl) ?_
  intro a hA
  refine seq_end ?_
  refine hK11 _ _ ?_
  refine wp_ret ?_
  refine hret _ _ ?_
  refine ends (v := .tuple #[.int .i64 0, .int .i64 (want1 q)]) hA rfl (.cons (res_tmp rfl) (.cons (res_tmp rfl) .nil)) rfl ?_
  rw [lengthQ_err hw]
  exact ⟨rfl, hS.bel⟩
theorem lengthPW_any {w : World} {b : Bool} {x : Nat} {a1 a2 a3 a4 : Option Addr} {ac1 ac2 ac3 ac4 : Nat} (ha : Nm w (Q6.whole b x) a1 ac1 a2 ac2 a3 ac3 a4 ac4) (hl : LenQ (Q6.whole b x))  (hw : want1 (Q6.whole b x) = 0) (hx : (words x).length ≤ 512) (hb : b.toNat ≤ x) : Calls Try.prog 18 #[numV (Q6.whole b x) a1 ac1 a2 ac2 a3 ac3 a4 ac4] w (AnsII w (lengthQ (Q6.whole b x))) := by
  have hS : St w w [] [(a4, [1]), (a3, []), (a2, [1]), (a1, words x)] [] := ((((St.start w).addR ha.s1.rd).addR ha.s2.rd).addR ha.s3.rd).addR ha.s4.rd
  refine walk_of (l := [(0, .agg #[.bool b, .slice a1 ((words x).length) ac1, .slice a2 1 ac2, .bool false, .slice a3 0 ac3, .slice a4 1 ac4])]) Try.func18 rfl Try.ntmps18 rfl rfl ?_
  intro Q hret hnorm hP a hA
  refine wp_seq_k (fun K1 hK1 => ?_)
  refine wp_region_lit ?_
  refine seq_new (vs := [.bool b, .slice a1 ((words x).length) ac1, .slice a2 1 ac2, .bool false, .slice a3 0 ac3, .slice a4 1 ac4]) (t := 26) hA hS rfl rfl rfl (fun g => .pointer (some ⟨g, 0, none⟩)) (does_box rfl rfl) rfl ?_
  intro g2 w3 hS a hA
  refine seq_do hA rfl rfl rfl (does_assign rfl) ?_
  intro a hA
  refine seq_do hA rfl rfl rfl (does_assign rfl) ?_
  intro a hA
  refine seq_end ?_
  refine hK1 _ _ ?_
  refine wp_seq_k (fun K4 hK4 => ?_)
  refine wp_seq_k (fun K5 hK5 => ?_)
  refine wp_region_lit ?_
  refine seq_do (v := .agg #[.bool b, .slice a1 ((words x).length) ac1, .slice a2 1 ac2, .bool false, .slice a3 0 ac3, .slice a4 1 ac4]) hA rfl rfl rfl (does_loadS hS isS_26 rfl 0 rfl (cs := [.bool b, .slice a1 ((words x).length) ac1, .slice a2 1 ac2, .bool false, .slice a3 0 ac3, .slice a4 1 ac4]) rfl rfl) ?_
  intro a hA
  refine seq_new (vs := [.bool b, .slice a1 ((words x).length) ac1, .slice a2 1 ac2, .bool false, .slice a3 0 ac3, .slice a4 1 ac4]) (t := 26) hA hS rfl rfl rfl (fun g => .slice (some ⟨g, 0, none⟩) 1 1) (does_buildSlice rfl (by kernel_rfl)) rfl ?_
  intro g6 w7 hS a hA
  refine seq_call hA rfl rfl rfl (enters_func  rfl rfl (fun w => by kernel_rfl)) (want1_any (show Nm _ (Q6.whole b x) a1 ac1 a2 ac2 a3 ac3 a4 ac4 from ⟨⟨(hS.rd 3 rfl), ha.s1.nil, ha.s1.cap⟩, ⟨(hS.rd 2 rfl), ha.s2.nil, ha.s2.cap⟩, ⟨(hS.rd 1 rfl), ha.s3.nil, ha.s3.cap⟩, ⟨(hS.rd 0 rfl), ha.s4.nil, ha.s4.cap⟩⟩) hl (hS.blk 0 rfl) hw) ?_
  rintro _ w9 ⟨rfl, hb8⟩
  replace hS := hS.call hb8
  refine ⟨_, rfl, ?_⟩
  intro a hA
  refine seq_do hA rfl rfl rfl (does_assign rfl) ?_
  intro a hA
  refine seq_end ?_
  refine hK5 _ _ ?_
  refine wp_seq_k (fun K10 hK10 => ?_)
  refine wp_region_lit ?_
  refine seq_do hA rfl rfl rfl (does_move rfl) ?_
  intro a hA
  refine seq_do (v := .bool false) hA rfl rfl rfl (does_bin rfl rfl (fun w => by kernel_rfl)) ?_
  intro a hA
  refine seq_end ?_
  refine hK10 _ _ ?_
  refine wp_cond_false (hA.ev rfl) ?_
  refine wp_skip ?_
  refine hK4 _ _ ?_
  refine wp_seq_k (fun K11 hK11 => ?_)
  refine wp_region_lit ?_
  refine seq_do (v := .agg #[.bool b, .slice a1 ((words x).length) ac1, .slice a2 1 ac2, .bool false, .slice a3 0 ac3, .slice a4 1 ac4]) hA rfl rfl rfl (does_loadS hS isS_26 rfl 1 rfl (cs := [.bool b, .slice a1 ((words x).length) ac1, .slice a2 1 ac2, .bool false, .slice a3 0 ac3, .slice a4 1 ac4]) rfl rfl) ?_
  intro a hA
  refine seq_call hA rfl rfl rfl (enters_func  rfl rfl (fun w => by kernel_rfl)) (rowOf_any (show Nm _ (Q6.whole b x) a1 ac1 a2 ac2 a3 ac3 a4 ac4 from ⟨⟨(hS.rd 3 rfl), ha.s1.nil, ha.s1.cap⟩, ⟨(hS.rd 2 rfl), ha.s2.nil, ha.s2.cap⟩, ⟨(hS.rd 1 rfl), ha.s3.nil, ha.s3.cap⟩, ⟨(hS.rd 0 rfl), ha.s4.nil, ha.s4.cap⟩⟩) hx hb) ?_
  rintro _ w16 ⟨ro12, rc13, rfl, hs14, hb15⟩
  replace hS := hS.call hb15
  replace hS := hS.addR hs14.rd
  refine ⟨_, rfl, ?_⟩
  intro a hA
  refine seq_do (v := .slice ro12 ((words (x - b.toNat)).length) rc13) hA rfl rfl rfl (does_fieldV rfl (fun w => by kernel_rfl)) ?_
  intro a hA
  refine seq_call hA rfl rfl rfl (enters_func  rfl rfl (fun w => by kernel_rfl)) (bitsW_any _ (hS.rd 0 rfl) (Nat.le_trans (words_mono (Nat.sub_le x b.toNat)) hx)) ?_
  rintro _ w18 ⟨rfl, hb17⟩
  replace hb17 := below_eq hb17
  replace hS := hS.call hb17
  refine ⟨_, rfl, ?_⟩
  intro a hA
  refine seq_do hA rfl rfl rfl (does_assign rfl) ?_
  intro a hA
  refine seq_do hA rfl rfl rfl (does_assign rfl) ?_
  intro a hA
  refine seq_end ?_
  refine hK11 _ _ ?_
  refine wp_ret ?_
  refine hret _ _ ?_
  refine ends (v := .tuple #[.int .i64 (((bl (x - b.toNat) : Nat) : Int)), .int .i64 0]) hA rfl (.cons (res_tmp rfl) (.cons (res_tmp rfl) .nil)) rfl ?_
  rw [lengthQ_whole hw]
  exact ⟨rfl, hS.bel⟩
theorem lengthRW_any {w : World} {b : Bool} {x : Nat} {a1 a2 a3 a4 : Option Addr} {ac1 ac2 ac3 ac4 : Nat} (ha : Nm w (Q6.whole b x) a1 ac1 a2 ac2 a3 ac3 a4 ac4) (hl : LenQ (Q6.whole b x))  (hw : want1 (Q6.whole b x) = 0) (hx : (words x).length ≤ 512) (hb : b.toNat ≤ x) : Calls Try.prog 19 #[numV (Q6.whole b x) a1 ac1 a2 ac2 a3 ac3 a4 ac4] w (AnsII w (lengthQ (Q6.whole b x))) := by
  cases b
  · have hS : St w w [] [(a4, [1]), (a3, []), (a2, [1]), (a1, words x)] [] := ((((St.start w).addR ha.s1.rd).addR ha.s2.rd).addR ha.s3.rd).addR ha.s4.rd
    refine walk_of (l := [(0, .agg #[.bool false, .slice a1 ((words x).length) ac1, .slice a2 1 ac2, .bool false, .slice a3 0 ac3, .slice a4 1 ac4])]) Try.func19 rfl Try.ntmps19 rfl rfl ?_
    intro Q hret hnorm hP a hA
    refine wp_seq_k (fun K1 hK1 => ?_)
    refine wp_region_lit ?_
    refine seq_new (vs := [.bool false, .slice a1 ((words x).length) ac1, .slice a2 1 ac2, .bool false, .slice a3 0 ac3, .slice a4 1 ac4]) (t := 26) hA hS rfl rfl rfl (fun g => .pointer (some ⟨g, 0, none⟩)) (does_box rfl rfl) rfl ?_
    intro g2 w3 hS a hA
    refine seq_do hA rfl rfl rfl (does_assign rfl) ?_
    intro a hA
    refine seq_do hA rfl rfl rfl (does_assign rfl) ?_
    intro a hA
    refine seq_end ?_
    refine hK1 _ _ ?_
    refine wp_seq_k (fun K4 hK4 => ?_)
    refine wp_region_lit ?_
    refine seq_do (v := .agg #[.bool false, .slice a1 ((words x).length) ac1, .slice a2 1 ac2, .bool false, .slice a3 0 ac3, .slice a4 1 ac4]) hA rfl rfl rfl (does_loadS hS isS_26 rfl 0 rfl (cs := [.bool false, .slice a1 ((words x).length) ac1, .slice a2 1 ac2, .bool false, .slice a3 0 ac3, .slice a4 1 ac4]) rfl rfl) ?_
    intro a hA
    refine seq_new (vs := [.bool false, .slice a1 ((words x).length) ac1, .slice a2 1 ac2, .bool false, .slice a3 0 ac3, .slice a4 1 ac4]) (t := 26) hA hS rfl rfl rfl (fun g => .slice (some ⟨g, 0, none⟩) 1 1) (does_buildSlice rfl (by kernel_rfl)) rfl ?_
    intro g5 w6 hS a hA
    refine seq_call hA rfl rfl rfl (enters_func  rfl rfl (fun w => by kernel_rfl)) (rcheck1_any (show Nm _ (Q6.whole false x) a1 ac1 a2 ac2 a3 ac3 a4 ac4 from ⟨⟨(hS.rd 3 rfl), ha.s1.nil, ha.s1.cap⟩, ⟨(hS.rd 2 rfl), ha.s2.nil, ha.s2.cap⟩, ⟨(hS.rd 1 rfl), ha.s3.nil, ha.s3.cap⟩, ⟨(hS.rd 0 rfl), ha.s4.nil, ha.s4.cap⟩⟩) hl (hS.blk 0 rfl) hw) ?_
    rintro _ w8 ⟨rfl, hb7⟩
    replace hS := hS.call hb7
    refine ⟨_, rfl, ?_⟩
    intro a hA
    refine seq_do hA rfl rfl rfl (does_assign rfl) ?_
    intro a hA
    refine seq_end ?_
    refine hK4 _ _ ?_
    refine wp_seq_k (fun K9 hK9 => ?_)
    refine wp_seq_k (fun K10 hK10 => ?_)
    refine wp_region_lit ?_
    refine seq_do hA rfl rfl rfl (does_move rfl) ?_
    intro a hA
    refine seq_do (v := .bool false) hA rfl rfl rfl (does_bin rfl rfl (fun w => by kernel_rfl)) ?_
    intro a hA
    refine seq_end ?_
    refine hK10 _ _ ?_
    refine wp_cond_false (hA.ev rfl) ?_
    refine wp_skip ?_
    refine hK9 _ _ ?_
    refine wp_seq_k (fun K11 hK11 => ?_)
    refine wp_region_lit ?_
    refine seq_do (v := .agg #[.bool false, .slice a1 ((words x).length) ac1, .slice a2 1 ac2, .bool false, .slice a3 0 ac3, .slice a4 1 ac4]) hA rfl rfl rfl (does_loadS hS isS_26 rfl 1 rfl (cs := [.bool false, .slice a1 ((words x).length) ac1, .slice a2 1 ac2, .bool false, .slice a3 0 ac3, .slice a4 1 ac4]) rfl rfl) ?_
    intro a hA
    refine seq_new (vs := [.bool false, .slice none 0 0, .slice none 0 0, .bool false, .slice none 0 0, .slice none 0 0]) (t := 26) hA hS rfl rfl rfl (fun g => .pointer (some ⟨g, 0, none⟩)) (does_alloc (z := .agg #[.bool false, .slice none 0 0, .slice none 0 0, .bool false, .slice none 0 0, .slice none 0 0]) (by kernel_rfl) rfl) rfl ?_
    intro g12 w13 hS a hA
    refine seq_store (us := [.bool false, .slice a1 ((words x).length) ac1, .slice a2 1 ac2, .bool false, .slice a3 0 ac3, .slice a4 1 ac4]) hA hS rfl rfl (sets_store (cs := [.bool false, .slice a1 ((words x).length) ac1, .slice a2 1 ac2, .bool false, .slice a3 0 ac3, .slice a4 1 ac4]) rfl rfl rfl (by kernel_rfl) hS 0 rfl rfl rfl) 0 rfl rfl rfl rfl ?_
    intro w14 hS
    refine seq_end ?_
    refine hK11 _ _ ?_
    refine wp_seq_k (fun K15 hK15 => ?_)
    refine wp_seq_k (fun K16 hK16 => ?_)
    refine wp_region_lit ?_
    refine seq_do (v := .pointer (some ⟨g2, 0, none⟩)) hA rfl rfl rfl (does_field fld_26_0 rfl rfl) ?_
    intro a hA
    refine seq_do (v := .pointer (some ⟨g2, 0, none⟩)) hA rfl rfl rfl (does_field fld_24_0 rfl rfl) ?_
    intro a hA
    refine seq_do hA rfl rfl rfl (does_load1 hS is1_4 rfl 2 rfl rfl) ?_
    intro a hA
    refine seq_end ?_
    refine hK16 _ _ ?_
    refine wp_cond_false (hA.ev rfl) ?_
    refine wp_skip ?_
    refine hK15 _ _ ?_
    refine wp_seq_k (fun K17 hK17 => ?_)
    refine wp_region_lit ?_
    refine seq_do (v := .pointer (some ⟨g12, 0, none⟩)) hA rfl rfl rfl (does_field fld_26_0 rfl rfl) ?_
    intro a hA
    refine seq_do (v := .pointer (some ⟨g12, 1, none⟩)) hA rfl rfl rfl (does_field fld_24_1 rfl rfl) ?_
    intro a hA
    refine seq_do hA rfl rfl rfl (does_load1 hS is1_22 rfl 0 rfl rfl) ?_
    intro a hA
    refine seq_call hA rfl rfl rfl (enters_func  rfl rfl (fun w => by kernel_rfl)) (size_any _ (hS.rd 3 rfl) (by omega)) ?_
    rintro _ w19 ⟨rfl, hb18⟩
    replace hb18 := below_eq hb18
    replace hS := hS.call hb18
    refine ⟨_, rfl, ?_⟩
    intro a hA
    refine seq_do hA rfl rfl rfl (does_assign rfl) ?_
    intro a hA
    refine seq_do hA rfl rfl rfl (does_assign rfl) ?_
    intro a hA
    refine seq_end ?_
    refine hK17 _ _ ?_
    refine wp_ret ?_
    refine hret _ _ ?_
    refine ends (v := .tuple #[.int .i64 (((bl (x) : Nat) : Int)), .int .i64 0]) hA rfl (.cons (res_tmp rfl) (.cons (res_tmp rfl) .nil)) rfl ?_
    rw [lengthQ_whole hw]
    exact ⟨rfl, hS.bel⟩
  · have hS : St w w [] [(a4, [1]), (a3, []), (a2, [1]), (a1, words x)] [] := ((((St.start w).addR ha.s1.rd).addR ha.s2.rd).addR ha.s3.rd).addR ha.s4.rd
    refine walk_of (l := [(0, .agg #[.bool true, .slice a1 ((words x).length) ac1, .slice a2 1 ac2, .bool false, .slice a3 0 ac3, .slice a4 1 ac4])]) Try.func19 rfl Try.ntmps19 rfl rfl ?_
    intro Q hret hnorm hP a hA
    refine wp_seq_k (fun K1 hK1 => ?_)
    refine wp_region_lit ?_
    refine seq_new (vs := [.bool true, .slice a1 ((words x).length) ac1, .slice a2 1 ac2, .bool false, .slice a3 0 ac3, .slice a4 1 ac4]) (t := 26) hA hS rfl rfl rfl (fun g => .pointer (some ⟨g, 0, none⟩)) (does_box rfl rfl) rfl ?_
    intro g2 w3 hS a hA
    refine seq_do hA rfl rfl rfl (does_assign rfl) ?_
    intro a hA
    refine seq_do hA rfl rfl rfl (does_assign rfl) ?_
    intro a hA
    refine seq_end ?_
    refine hK1 _ _ ?_
    refine wp_seq_k (fun K4 hK4 => ?_)
    refine wp_region_lit ?_
    refine seq_do (v := .agg #[.bool true, .slice a1 ((words x).length) ac1, .slice a2 1 ac2, .bool false, .slice a3 0 ac3, .slice a4 1 ac4]) hA rfl rfl rfl (does_loadS hS isS_26 rfl 0 rfl (cs := [.bool true, .slice a1 ((words x).length) ac1, .slice a2 1 ac2, .bool false, .slice a3 0 ac3, .slice a4 1 ac4]) rfl rfl) ?_
    intro a hA
    refine seq_new (vs := [.bool true, .slice a1 ((words x).length) ac1, .slice a2 1 ac2, .bool false, .slice a3 0 ac3, .slice a4 1 ac4]) (t := 26) hA hS rfl rfl rfl (fun g => .slice (some ⟨g, 0, none⟩) 1 1) (does_buildSlice rfl (by kernel_rfl)) rfl ?_
    intro g5 w6 hS a hA
    refine seq_call hA rfl rfl rfl (enters_func  rfl rfl (fun w => by kernel_rfl)) (rcheck1_any (show Nm _ (Q6.whole true x) a1 ac1 a2 ac2 a3 ac3 a4 ac4 from ⟨⟨(hS.rd 3 rfl), ha.s1.nil, ha.s1.cap⟩, ⟨(hS.rd 2 rfl), ha.s2.nil, ha.s2.cap⟩, ⟨(hS.rd 1 rfl), ha.s3.nil, ha.s3.cap⟩, ⟨(hS.rd 0 rfl), ha.s4.nil, ha.s4.cap⟩⟩) hl (hS.blk 0 rfl) hw) ?_
    rintro _ w8 ⟨rfl, hb7⟩
    replace hS := hS.call hb7
    refine ⟨_, rfl, ?_⟩
    intro a hA
    refine seq_do hA rfl rfl rfl (does_assign rfl) ?_
    intro a hA
    refine seq_end ?_
    refine hK4 _ _ ?_
    refine wp_seq_k (fun K9 hK9 => ?_)
    refine wp_seq_k (fun K10 hK10 => ?_)
    refine wp_region_lit ?_
    refine seq_do hA rfl rfl rfl (does_move rfl) ?_
    intro a hA
    refine seq_do (v := .bool false) hA rfl rfl rfl (does_bin rfl rfl (fun w => by kernel_rfl)) ?_
    intro a hA
    refine seq_end ?_
    refine hK10 _ _ ?_
    refine wp_cond_false (hA.ev rfl) ?_
    refine wp_skip ?_
    refine hK9 _ _ ?_
    refine wp_seq_k (fun K11 hK11 => ?_)
    refine wp_region_lit ?_
    refine seq_do (v := .agg #[.bool true, .slice a1 ((words x).length) ac1, .slice a2 1 ac2, .bool false, .slice a3 0 ac3, .slice a4 1 ac4]) hA rfl rfl rfl (does_loadS hS isS_26 rfl 1 rfl (cs := [.bool true, .slice a1 ((words x).length) ac1, .slice a2 1 ac2, .bool false, .slice a3 0 ac3, .slice a4 1 ac4]) rfl rfl) ?_
    intro a hA
    refine seq_new (vs := [.bool false, .slice none 0 0, .slice none 0 0, .bool false, .slice none 0 0, .slice none 0 0]) (t := 26) hA hS rfl rfl rfl (fun g => .pointer (some ⟨g, 0, none⟩)) (does_alloc (z := .agg #[.bool false, .slice none 0 0, .slice none 0 0, .bool false, .slice none 0 0, .slice none 0 0]) (by kernel_rfl) rfl) rfl ?_
    intro g12 w13 hS a hA
    refine seq_store (us := [.bool true, .slice a1 ((words x).length) ac1, .slice a2 1 ac2, .bool false, .slice a3 0 ac3, .slice a4 1 ac4]) hA hS rfl rfl (sets_store (cs := [.bool true, .slice a1 ((words x).length) ac1, .slice a2 1 ac2, .bool false, .slice a3 0 ac3, .slice a4 1 ac4]) rfl rfl rfl (by kernel_rfl) hS 0 rfl rfl rfl) 0 rfl rfl rfl rfl ?_
    intro w14 hS
    refine seq_end ?_
    refine hK11 _ _ ?_
    refine wp_seq_k (fun K15 hK15 => ?_)
    refine wp_seq_k (fun K16 hK16 => ?_)
    refine wp_region_lit ?_
    refine seq_do (v := .pointer (some ⟨g2, 0, none⟩)) hA rfl rfl rfl (does_field fld_26_0 rfl rfl) ?_
    intro a hA
    refine seq_do (v := .pointer (some ⟨g2, 0, none⟩)) hA rfl rfl rfl (does_field fld_24_0 rfl rfl) ?_
    intro a hA
    refine seq_do hA rfl rfl rfl (does_load1 hS is1_4 rfl 2 rfl rfl) ?_
    intro a hA
    refine seq_end ?_
    refine hK16 _ _ ?_
    refine wp_cond_true (hA.ev rfl) ?_
    refine wp_region_lit ?_
    refine seq_do (v := .agg #[.bool true, .slice a1 ((words x).length) ac1, .slice a2 1 ac2, .bool false, .slice a3 0 ac3, .slice a4 1 ac4]) hA rfl rfl rfl (does_loadS hS isS_26 rfl 2 rfl (cs := [.bool true, .slice a1 ((words x).length) ac1, .slice a2 1 ac2, .bool false, .slice a3 0 ac3, .slice a4 1 ac4]) rfl rfl) ?_
    intro a hA
    refine seq_call hA rfl rfl rfl (enters_func  rfl rfl (fun w => by kernel_rfl)) (rturn_any (b := true) (x := x) (show Nm _ _ a1 ac1 a2 ac2 a3 ac3 a4 ac4 from ⟨⟨(hS.rd 3 rfl), ha.s1.nil, ha.s1.cap⟩, ⟨(hS.rd 2 rfl), ha.s2.nil, ha.s2.cap⟩, ⟨(hS.rd 1 rfl), ha.s3.nil, ha.s3.cap⟩, ⟨(hS.rd 0 rfl), ha.s4.nil, ha.s4.cap⟩⟩) (by omega) hb) ?_
    rintro _ w20 ⟨p17_1, p17_c1, p17_2, p17_c2, p17_3, p17_c3, p17_4, p17_c4, rfl, hn18, hb19⟩
    replace hS := hS.call hb19
    replace hS := hS.addR hn18.s1.rd
    replace hS := hS.addR hn18.s2.rd
    replace hS := hS.addR hn18.s3.rd
    replace hS := hS.addR hn18.s4.rd
    refine ⟨_, rfl, ?_⟩
    intro a hA
    refine seq_store (us := [.bool false, .slice p17_1 ((words (turnN true x)).length) p17_c1, .slice p17_2 1 p17_c2, .bool false, .slice p17_3 0 p17_c3, .slice p17_4 1 p17_c4]) hA hS rfl rfl (sets_store (cs := [.bool false, .slice p17_1 ((words (turnN true x)).length) p17_c1, .slice p17_2 1 p17_c2, .bool false, .slice p17_3 0 p17_c3, .slice p17_4 1 p17_c4]) rfl rfl rfl (by kernel_rfl) hS 0 rfl rfl rfl) 0 rfl rfl rfl rfl ?_
    intro w21 hS
    refine seq_end ?_
    refine hK15 _ _ ?_
    refine wp_seq_k (fun K22 hK22 => ?_)
    refine wp_region_lit ?_
    refine seq_do (v := .pointer (some ⟨g12, 0, none⟩)) hA rfl rfl rfl (does_field fld_26_0 rfl rfl) ?_
    intro a hA
    refine seq_do (v := .pointer (some ⟨g12, 1, none⟩)) hA rfl rfl rfl (does_field fld_24_1 rfl rfl) ?_
    intro a hA
    refine seq_do hA rfl rfl rfl (does_load1 hS is1_22 rfl 0 rfl rfl) ?_
    intro a hA
    refine seq_call hA rfl rfl rfl (enters_func  rfl rfl (fun w => by kernel_rfl)) (size_any _ (hS.rd 3 rfl) (Nat.le_trans (turn_len hx) (by decide))) ?_
    rintro _ w24 ⟨rfl, hb23⟩
    replace hb23 := below_eq hb23
    replace hS := hS.call hb23
    refine ⟨_, rfl, ?_⟩
    intro a hA
    refine seq_do hA rfl rfl rfl (does_assign rfl) ?_
    intro a hA
    refine seq_do hA rfl rfl rfl (does_assign rfl) ?_
    intro a hA
    refine seq_end ?_
    refine hK22 _ _ ?_
    refine wp_ret ?_
    refine hret _ _ ?_
    refine ends (v := .tuple #[.int .i64 (((bl (turnN true x) : Nat) : Int)), .int .i64 0]) hA rfl (.cons (res_tmp rfl) (.cons (res_tmp rfl) .nil)) rfl ?_
    rw [lengthQ_whole hw]
    exact ⟨rfl, hS.bel⟩
end Go.Proofs.Yteghiinbafbokaa
namespace Go.Proofs.Yteghiinbafbokaa
open Go.RowKit
set_option linter.unusedVariables false
set_option linter.unusedSimpArgs false

/-- How many of the m lowest bits are 1. -/
def popU (y : Nat) : Nat → Nat
  | 0 => 0
  | m + 1 => popU y m + y / 2 ^ m % 2
theorem popU_le (y : Nat) : ∀ m, popU y m ≤ m
  | 0 => Nat.le_refl _
  | m + 1 => by have := popU_le y m; have := Nat.mod_lt (y / 2 ^ m) (show 0 < 2 by omega); unfold popU; omega
theorem popU_split (y m : Nat) : ∀ k, popU y (m + k) = popU y m + popU (y / 2 ^ m) k
  | 0 => rfl
  | k + 1 => by
    show popU y (m + k) + y / 2 ^ (m + k) % 2 = popU y m + (popU (y / 2 ^ m) k + y / 2 ^ m / 2 ^ k % 2)
    rw [popU_split y m k, Nat.div_div_eq_div_mul, ← Nat.pow_add, Nat.add_assoc]
theorem popU_mod (y m : Nat) : ∀ k, k ≤ m → popU (y % 2 ^ m) k = popU y k
  | 0, _ => rfl
  | k + 1, h => by
    show popU (y % 2 ^ m) k + y % 2 ^ m / 2 ^ k % 2 = popU y k + y / 2 ^ k % 2
    rw [popU_mod y m k (by omega)]
    have e : 2 ^ m = 2 ^ k * 2 ^ (m - k) := by rw [← Nat.pow_add]; congr 1; omega
    rw [e, Nat.mod_mul_right_div_self]
    have e2 : 2 ^ (m - k) = 2 * 2 ^ (m - k - 1) := by rw [← Nat.pow_succ']; congr 1; omega
    rw [e2, Nat.mod_mul_right_mod]
theorem popU_four {x : Nat} (hx : x < 4294967296) : popU (x / 2 ^ 24) 8 + popU (x / 2 ^ 16 % 256) 8 + popU (x / 2 ^ 8 % 256) 8 + popU (x % 256) 8 = popU x 32 := by
  have h1 : popU x 32 = popU x 8 + popU (x / 2 ^ 8) 24 := popU_split x 8 24
  have h2 : popU (x / 2 ^ 8) 24 = popU (x / 2 ^ 8) 8 + popU (x / 2 ^ 8 / 2 ^ 8) 16 := popU_split (x / 2 ^ 8) 8 16
  have h3 : popU (x / 2 ^ 16) 16 = popU (x / 2 ^ 16) 8 + popU (x / 2 ^ 16 / 2 ^ 8) 8 := popU_split (x / 2 ^ 16) 8 8
  have d1 : x / 2 ^ 8 / 2 ^ 8 = x / 2 ^ 16 := by rw [Nat.div_div_eq_div_mul]
  have d2 : x / 2 ^ 16 / 2 ^ 8 = x / 2 ^ 24 := by rw [Nat.div_div_eq_div_mul]
  rw [d1] at h2
  rw [d2] at h3
  have m1 := popU_mod (x / 2 ^ 16) 8 8 (Nat.le_refl _)
  have m2 := popU_mod (x / 2 ^ 8) 8 8 (Nat.le_refl _)
  have m3 := popU_mod x 8 8 (Nat.le_refl _)
  rw [show (256 : Nat) = 2 ^ 8 from rfl, m1, m2, m3]
  omega
theorem tabAt {s : ByteArray} (hs : ∀ i, i < 256 → (s[i]?).map (·.toNat) = some (popU i 8)) {n : Nat} (h : n < 256) : (s[n]?).map (·.toNat) = some (popU n 8) := hs n h
section
variable {P : Program} {l : List (Nat × Value)} {dst : Option Tmp} {ty t : TypeId} {pos : String} {after : Array Edge} {guard : Option (Nat × Bool)} {w : World} {x y : Operand}
theorem does_indexS {s : ByteArray} {i m : Nat} (hu : P.underlying t = some .string) (hx : ev l x = some (.string s)) (hi : ev l y = some (.int .u32 ((i : Nat) : Int))) (ht : (s[i]?).map (·.toNat) = some m) :
    Does P l ⟨dst, .index t x y, ty, pos, after, guard⟩ w (.int .u8 ((m : Nat) : Int)) w := fun ρ h => by
  cases hs : s[i]? with
  | none => rw [hs] at ht; cases ht
  | some b =>
    rw [hs] at ht
    simp only [Option.map_some, Option.some.injEq] at ht
    subst ht
    simp [execOp, h x _ hx, h y _ hi, Instr.index, run_underlying hu, asIntOf, go_sem, hs]
theorem bin_shr {x k : Nat} {a b : Operand} (hx : x < 4294967296) (hk : k < 32) : ∀ w, (do eqGuard .shr t a b (.int .u32 x) (.int .u64 ((k : Nat) : Int)); binOp .shr t (.int .u32 (x : Nat)) (.int .u64 ((k : Nat) : Int)) : Sem Value).run P w = .ok (.int .u32 ((x / 2 ^ k : Nat) : Int)) w := fun w => by
  simp [go_sem]
theorem bin_and255 {x : Nat} {a b : Operand} (hx : x < 4294967296) : ∀ w, (do eqGuard .and t a b (.int .u32 x) (.int .u32 255); binOp .and t (.int .u32 (x : Nat)) (.int .u32 255) : Sem Value).run P w = .ok (.int .u32 ((x % 256 : Nat) : Int)) w := fun w => by
  have h := and_u32 x 255 hx (by omega)
  have e : x &&& 255 = x % 256 := Nat.and_two_pow_sub_one_eq_mod x 8
  simp [go_sem]
  rw [show (255 : Int) = ((255 : Nat) : Int) from rfl, h, e]
  rfl
theorem u8In {a : Int} (h0 : 0 ≤ a) (h1 : a ≤ 255) : IntKind.u8.wrap a = a := by
  rw [IntKind.wrap_u8]
  omega
theorem conv_u8 {s d : TypeId} {m : Nat} (hs : P.underlying s = some (.int .u8)) (hd : P.underlying d = some (.int .i64)) (hm : m ≤ 255) : ∀ w, (convert s d (.int .u8 ((m : Nat) : Int))).run P w = .ok (.int .i64 ((m : Nat) : Int)) w := fun w => by
  have := i64In (a := ((m : Nat) : Int)) (by omega) (by omega)
  simp [convert, run_underlying hs, run_underlying hd, go_sem, this]
theorem conv_u32 {s d : TypeId} {m : Nat} (hs : P.underlying s = some (.int .u32)) (hd : P.underlying d = some (.int .i64)) (hm : m < 4294967296) : ∀ w, (convert s d (.int .u32 ((m : Nat) : Int))).run P w = .ok (.int .i64 ((m : Nat) : Int)) w := fun w => by
  have := i64In (a := ((m : Nat) : Int)) (by omega) (by omega)
  simp [convert, run_underlying hs, run_underlying hd, go_sem, this]
end
/-- .. over the words. -/
theorem popU_word (y i : Nat) : popU y (32 * (i + 1)) = popU y (32 * i) + popU (y / pw i % 4294967296) 32 := by
  have h := popU_split y (32 * i) 32
  have m := popU_mod (y / 2 ^ (32 * i)) 32 32 (Nat.le_refl _)
  rw [pw_two, show (4294967296 : Nat) = 2 ^ 32 from rfl, m, ← h]
  rfl
def countQ (q : Q6) : Int × Int :=
  if want1 q = 0 then (if q.b1 = true then (-((popU (val q.t1 - 1) (32 * (words (val q.t1 - 1)).length) : Nat) : Int) - 1, 0) else (((popU (val q.t1) (32 * (words (val q.t1)).length) : Nat) : Int), 0)) else (0, want1 q)
theorem countQ_err {q : Q6} (h : (want1 q != 0) = true) : countQ q = (0, want1 q) := by unfold countQ; rw [if_neg (bne_iff_ne.1 h)]
theorem countQ_neg {x : Nat} (h : want1 (Q6.whole true x) = 0) : countQ (Q6.whole true x) = (-((popU (x - 1) (32 * (words (x - 1)).length) : Nat) : Int) - 1, 0) := by
  unfold countQ; rw [if_pos h]; simp only [Q6.whole, val_words, if_true]
theorem countQ_pos {x : Nat} (h : want1 (Q6.whole false x) = 0) : countQ (Q6.whole false x) = (((popU x (32 * (words x).length) : Nat) : Int), 0) := by
  unfold countQ; rw [if_pos h]; simp only [Q6.whole, val_words, Bool.false_eq_true, if_false]
theorem xor_neg (n : Nat) (h : n ≤ 9223372036854775807) : bits .xor .i64 (-1) ((n : Nat) : Int) = -((n : Nat) : Int) - 1 := by
  have e : (BitVec.ofInt IntKind.i64.bits (-1) ^^^ BitVec.ofInt IntKind.i64.bits ((n : Nat) : Int)).toNat = 18446744073709551615 - n := by
    show (BitVec.ofInt 64 (-1) ^^^ BitVec.ofInt 64 ((n : Nat) : Int)).toNat = _
    rw [BitVec.ofInt_natCast, show BitVec.ofInt 64 (-1) = BitVec.allOnes 64 from by decide, BitVec.allOnes_xor, BitVec.toNat_not, BitVec.toNat_ofNat]
    omega
  show IntKind.i64.wrap ((BitVec.ofInt IntKind.i64.bits (-1) ^^^ BitVec.ofInt IntKind.i64.bits ((n : Nat) : Int)).toNat : Int) = _
  rw [e, IntKind.wrap_i64]
  omega
theorem un_xor {P : Program} {n : Nat} (h : n ≤ 9223372036854775807) : ∀ w, (Op.unary .xor (.int .i64 ((n : Nat) : Int))).run P w = .ok (.int .i64 (-((n : Nat) : Int) - 1)) w := fun w => by
  have e := xor_neg n h
  have s : IntKind.i64.signed = true := rfl
  simp [go_sem, s, e]
theorem bin_mul32 {P : Program} {t : TypeId} {x y : Operand} {n : Nat} (h : n ≤ 100000) : ∀ w, (do eqGuard .mul t x y (.int .i64 32) (.int .i64 ((n : Nat) : Int)); binOp .mul t (.int .i64 32) (.int .i64 ((n : Nat) : Int)) : Sem Value).run P w = .ok (.int .i64 ((32 * n : Nat) : Int)) w := fun w => by
  have := i64In (a := 32 * ((n : Nat) : Int)) (by omega) (by omega)
  simp [go_sem, this]
end Go.Proofs.Yteghiinbafbokaa
namespace Go.Proofs.Yteghiinbafbokaa
open Go.RowKit
set_option linter.unusedVariables false
set_option linter.unusedSimpArgs false
set_option maxRecDepth 100000

theorem onesCount_any {w : World} {x : Nat} (hx : x < 4294967296) : Calls Try.prog 67 #[.int .u32 ((x : Nat) : Int)] w fun e w' => e = .returned (.int .i64 ((popU x 32 : Nat) : Int)) ∧ Below w.heap.size w w' := by
  have q1 := popU_le (x / 2 ^ 24) 8
  have q2 := popU_le (x / 2 ^ 16 % 256) 8
  have q3 := popU_le (x / 2 ^ 8 % 256) 8
  have q4 := popU_le (x % 256) 8
  have hS : St w w [] [] [] := St.start w
  refine walk_of (l := [(0, .int .u32 (((x : Nat) : Int)))]) Try.func67 rfl Try.ntmps67 rfl rfl ?_
  intro Q hret hnorm hP a hA
  refine wp_seq_k (fun K1 hK1 => ?_)
  refine wp_region_lit ?_
  refine seq_do hA rfl rfl rfl (does_assign rfl) ?_
  intro a hA
  refine seq_end ?_
  refine hK1 _ _ ?_
  refine wp_seq_k (fun K2 hK2 => ?_)
  refine wp_draw (S := fun w1 => St w w1 [] [] []) (by kernel_rfl) ?_
  replace hS := hS.drew
  refine any_take hA 0 rfl rfl rfl rfl (by kernel_rfl) (by kernel_rfl) (by kernel_rfl) (fun c a w h => hP c a _ _ w h) (hS.part .slnil trivial .slnil) (fun w1 hS => does_move rfl) ?_
  intro a hA
  refine any_take (v := .int .u32 (((x / 2 ^ 24 : Nat) : Int))) hA 1 rfl rfl rfl rfl (by kernel_rfl) (by kernel_rfl) (by kernel_rfl) (fun c a w h => hP c a _ _ w h) (hS.part .slnil trivial .slnil) (fun w1 hS => does_bin rfl rfl (bin_shr hx (by decide))) ?_
  intro a hA
  refine any_take (v := .int .u8 (((popU (x / 2 ^ 24) 8 : Nat) : Int))) hA 2 rfl rfl rfl rfl (by kernel_rfl) (by kernel_rfl) (by kernel_rfl) (fun c a w h => hP c a _ _ w h) (hS.part .slnil trivial .slnil) (fun w1 hS => does_indexS Try.underlying9 rfl rfl (tabAt (by decide +kernel) (by omega))) ?_
  intro a hA
  refine any_take hA 3 rfl rfl rfl rfl (by kernel_rfl) (by kernel_rfl) (by kernel_rfl) (fun c a w h => hP c a _ _ w h) (hS.part .slnil trivial .slnil) (fun w1 hS => does_move rfl) ?_
  intro a hA
  refine any_take (v := .int .u32 (((x / 2 ^ 16 : Nat) : Int))) hA 4 rfl rfl rfl rfl (by kernel_rfl) (by kernel_rfl) (by kernel_rfl) (fun c a w h => hP c a _ _ w h) (hS.part .slnil trivial .slnil) (fun w1 hS => does_bin rfl rfl (bin_shr hx (by decide))) ?_
  intro a hA
  refine any_take (v := .int .u32 (((x / 2 ^ 16 % 256 : Nat) : Int))) hA 5 rfl rfl rfl rfl (by kernel_rfl) (by kernel_rfl) (by kernel_rfl) (fun c a w h => hP c a _ _ w h) (hS.part .slnil trivial .slnil) (fun w1 hS => does_bin rfl rfl (bin_and255 (by omega))) ?_
  intro a hA
  refine any_take (v := .int .u8 (((popU (x / 2 ^ 16 % 256) 8 : Nat) : Int))) hA 6 rfl rfl rfl rfl (by kernel_rfl) (by kernel_rfl) (by kernel_rfl) (fun c a w h => hP c a _ _ w h) (hS.part .slnil trivial .slnil) (fun w1 hS => does_indexS Try.underlying9 rfl rfl (tabAt (by decide +kernel) (by omega))) ?_
  intro a hA
  refine any_take (v := .int .u8 (((popU (x / 2 ^ 24) 8 + popU (x / 2 ^ 16 % 256) 8 : Nat) : Int))) hA 7 rfl rfl rfl rfl (by kernel_rfl) (by kernel_rfl) (by kernel_rfl) (fun c a w h => hP c a _ _ w h) (hS.part .slnil trivial .slnil) (fun w1 hS => does_bin rfl rfl (bin_add (u8In (by omega) (by omega)))) ?_
  intro a hA
  refine any_take hA 8 rfl rfl rfl rfl (by kernel_rfl) (by kernel_rfl) (by kernel_rfl) (fun c a w h => hP c a _ _ w h) (hS.part .slnil trivial .slnil) (fun w1 hS => does_move rfl) ?_
  intro a hA
  refine any_take (v := .int .u32 (((x / 2 ^ 8 : Nat) : Int))) hA 9 rfl rfl rfl rfl (by kernel_rfl) (by kernel_rfl) (by kernel_rfl) (fun c a w h => hP c a _ _ w h) (hS.part .slnil trivial .slnil) (fun w1 hS => does_bin rfl rfl (bin_shr hx (by decide))) ?_
  intro a hA
  refine any_take (v := .int .u32 (((x / 2 ^ 8 % 256 : Nat) : Int))) hA 10 rfl rfl rfl rfl (by kernel_rfl) (by kernel_rfl) (by kernel_rfl) (fun c a w h => hP c a _ _ w h) (hS.part .slnil trivial .slnil) (fun w1 hS => does_bin rfl rfl (bin_and255 (by omega))) ?_
  intro a hA
  refine any_take (v := .int .u8 (((popU (x / 2 ^ 8 % 256) 8 : Nat) : Int))) hA 11 rfl rfl rfl rfl (by kernel_rfl) (by kernel_rfl) (by kernel_rfl) (fun c a w h => hP c a _ _ w h) (hS.part .slnil trivial .slnil) (fun w1 hS => does_indexS Try.underlying9 rfl rfl (tabAt (by decide +kernel) (by omega))) ?_
  intro a hA
  refine any_take (v := .int .u8 (((popU (x / 2 ^ 24) 8 + popU (x / 2 ^ 16 % 256) 8 + popU (x / 2 ^ 8 % 256) 8 : Nat) : Int))) hA 12 rfl rfl rfl rfl (by kernel_rfl) (by kernel_rfl) (by kernel_rfl) (fun c a w h => hP c a _ _ w h) (hS.part .slnil trivial .slnil) (fun w1 hS => does_bin rfl rfl (bin_add (u8In (by omega) (by omega)))) ?_
  intro a hA
  refine any_take hA 13 rfl rfl rfl rfl (by kernel_rfl) (by kernel_rfl) (by kernel_rfl) (fun c a w h => hP c a _ _ w h) (hS.part .slnil trivial .slnil) (fun w1 hS => does_move rfl) ?_
  intro a hA
  refine any_take (v := .int .u32 (((x % 256 : Nat) : Int))) hA 14 rfl rfl rfl rfl (by kernel_rfl) (by kernel_rfl) (by kernel_rfl) (fun c a w h => hP c a _ _ w h) (hS.part .slnil trivial .slnil) (fun w1 hS => does_bin rfl rfl (bin_and255 (by omega))) ?_
  intro a hA
  refine any_take (v := .int .u8 (((popU (x % 256) 8 : Nat) : Int))) hA 15 rfl rfl rfl rfl (by kernel_rfl) (by kernel_rfl) (by kernel_rfl) (fun c a w h => hP c a _ _ w h) (hS.part .slnil trivial .slnil) (fun w1 hS => does_indexS Try.underlying9 rfl rfl (tabAt (by decide +kernel) (by omega))) ?_
  intro a hA
  refine any_take (v := .int .u8 (((popU (x / 2 ^ 24) 8 + popU (x / 2 ^ 16 % 256) 8 + popU (x / 2 ^ 8 % 256) 8 + popU (x % 256) 8 : Nat) : Int))) hA 16 rfl rfl rfl rfl (by kernel_rfl) (by kernel_rfl) (by kernel_rfl) (fun c a w h => hP c a _ _ w h) (hS.part .slnil trivial .slnil) (fun w1 hS => does_bin rfl rfl (bin_add (u8In (by omega) (by omega)))) ?_
  intro a hA
  refine any_take (v := .int .i64 (((popU (x / 2 ^ 24) 8 + popU (x / 2 ^ 16 % 256) 8 + popU (x / 2 ^ 8 % 256) 8 + popU (x % 256) 8 : Nat) : Int))) hA 17 rfl rfl rfl rfl (by kernel_rfl) (by kernel_rfl) (by kernel_rfl) (fun c a w h => hP c a _ _ w h) (hS.part .slnil trivial .slnil) (fun w1 hS => does_convert rfl (conv_u8 Try.underlying5 Try.underlying3 (by omega))) ?_
  intro a hA
  refine any_take hA 18 rfl rfl rfl rfl (by kernel_rfl) (by kernel_rfl) (by kernel_rfl) (fun c a w h => hP c a _ _ w h) (hS.part .slnil trivial .slnil) (fun w1 hS => does_assign rfl) ?_
  intro a hA
  refine any_end (by kernel_rfl) ?_
  refine hK2 _ _ ?_
  refine wp_ret ?_
  refine hret _ _ ?_
  refine ends (v := .int .i64 (((popU (x / 2 ^ 24) 8 + popU (x / 2 ^ 16 % 256) 8 + popU (x / 2 ^ 8 % 256) 8 + popU (x % 256) 8 : Nat) : Int))) hA rfl (.cons (res_tmp rfl) .nil) rfl ?_
  rw [← popU_four hx]
  exact ⟨rfl, hS.bel⟩
theorem ones_any {w : World} {ro : Option Addr} {rc y : Nat} (hr : Rd w ro (words y)) (hy : (words y).length ≤ 512) : Calls Try.prog 43 #[.slice ro (words y).length rc] w fun e w' => e = .returned (.int .i64 ((popU y (32 * (words y).length) : Nat) : Int)) ∧ Below w.heap.size w w' := by
  have hS : St w w [] [(ro, words y)] [] := (St.start w).addR hr
  refine walk_of (l := [(0, .slice ro ((words y).length) rc)]) Try.func43 rfl Try.ntmps43 rfl rfl ?_
  intro Q hret hnorm hP a hA
  refine wp_seq_k (fun K1 hK1 => ?_)
  refine wp_region_lit ?_
  refine seq_do hA rfl rfl rfl (does_assign rfl) ?_
  intro a hA
  refine seq_end ?_
  refine hK1 _ _ ?_
  refine wp_seq_k (fun K2 hK2 => ?_)
  refine wp_region_lit ?_
  refine seq_do hA rfl rfl rfl (does_assign rfl) ?_
  intro a hA
  refine seq_end ?_
  refine hK2 _ _ ?_
  refine wp_seq_k (fun K3 hK3 => ?_)
  refine wp_seq_k (fun K4 hK4 => ?_)
  refine wp_region_lit ?_
  refine seq_do hA rfl rfl rfl (does_move rfl) ?_
  intro a hA
  refine seq_do (v := .int .i64 ((((words y).length : Nat) : Int))) hA rfl rfl rfl (does_len Try.underlying22 rfl) ?_
  intro a hA
  refine seq_do hA rfl rfl rfl (does_move rfl) ?_
  intro a hA
  refine seq_end ?_
  refine hK4 _ _ ?_
  refine wp_block ?_
  refine wp_loop_n (fun m a w1 => ∃ (i : Nat), m = (words y).length - i ∧ (i ≤ (words y).length) ∧ Sl a 18 [(0, .slice ro ((words y).length) rc), (2, .int .i64 0), (3, .int .i64 (((popU y (32 * i) : Nat) : Int))), (6, .slice ro ((words y).length) rc), (7, .int .i64 ((((words y).length : Nat) : Int))), (8, .int .i64 (((i : Nat) : Int)))] ∧ St w w1 [] [(ro, words y)] []) _ ⟨0, rfl, (Nat.zero_le _), hA.keep _ ⟨rfl, rfl, rfl, rfl, rfl, rfl, trivial⟩, hS⟩ ?_
  clear hS hA
  rintro m a w5 ⟨i, rfl, hinv7, hA, hS⟩ K6 hK6
  refine wp_seq_k (fun K8 hK8 => ?_)
  refine wp_region_lit ?_
  rcases Bool.eq_false_or_eq_true (decide (((i : Nat) : Int) < (((words y).length : Nat) : Int))) with hb9 | hb9
  · have hb9' := of_decide_eq_true hb9
    refine seq_do (v := .bool true) hA rfl rfl rfl (does_bin rfl rfl (fun w => (bin_lss w).trans (by rw [hb9]))) ?_
    intro a hA
    refine seq_end ?_
    refine hK8 _ _ ?_
    refine wp_seq_k (fun K10 hK10 => ?_)
    refine wp_cond_true (hA.ev rfl) ?_
    refine wp_skip ?_
    refine hK10 _ _ ?_
    refine wp_seq_k (fun K11 hK11 => ?_)
    refine wp_block ?_
    refine wp_seq_k (fun K12 hK12 => ?_)
    refine wp_region_lit ?_
    have hi16 : i < (words y).length := by first | omega | (simp only [List.length_set]; omega)
    obtain ⟨b13, f14, hso15⟩ := Rd.addr (hS.rd 0 rfl) hi16
    refine seq_do (v := .pointer (some ⟨b13, f14 + i, none⟩)) hA rfl rfl rfl (does_indexRow (k := i) Try.underlying22 (by kernel_rfl) rfl rfl (by omega) hso15 hi16) ?_
    intro a hA
    refine seq_do (v := .int .u32 ((((words y).getD i 0 : Nat) : Int))) hA rfl rfl rfl (does_loadRow (hS.rd 0 rfl) hso15 hi16 is1_41 rfl) ?_
    intro a hA
    refine seq_do hA rfl rfl rfl (does_assign rfl) ?_
    intro a hA
    refine seq_end ?_
    refine hK12 _ _ ?_
    refine wp_region_lit ?_
    refine seq_do hA rfl rfl rfl (does_move rfl) ?_
    intro a hA
    refine seq_do hA rfl rfl rfl (does_move rfl) ?_
    intro a hA
    refine seq_call hA rfl rfl rfl (enters_func  rfl rfl (fun w => by kernel_rfl)) (onesCount_any (by rw [words_getD]; exact Nat.mod_lt _ (by decide))) ?_
    rintro _ w18 ⟨rfl, hb17⟩
    replace hS := hS.call hb17
    refine ⟨_, rfl, ?_⟩
    intro a hA
    refine seq_do (v := .int .i64 (((popU y (32 * (i + 1)) : Nat) : Int))) hA rfl rfl rfl (does_bin rfl rfl (bin_addN (by rw [popU_word, words_getD]) (Nat.le_trans (popU_le _ _) (by omega)))) ?_
    intro a hA
    refine seq_do hA rfl rfl rfl (does_assign rfl) ?_
    intro a hA
    refine seq_end ?_
    refine hK11 _ _ ?_
    refine wp_region_lit ?_
    refine seq_do (v := .int .i64 (((i + 1 : Nat) : Int))) hA rfl rfl rfl (does_bin rfl rfl (fun w => (bin_add (i64In (by omega) (by omega)) w).trans (by rw [show (((i : Nat) : Int) + 1 : Int) = ((i + 1 : Nat) : Int) from by omega]))) ?_
    intro a hA
    refine seq_do hA rfl rfl rfl (does_move rfl) ?_
    intro a hA
    refine seq_end ?_
    refine hK6 _ _ _ (by omega) ⟨i + 1, rfl, (by omega), hA.keep _ ⟨rfl, rfl, rfl, rfl, rfl, rfl, trivial⟩, ((hS.pickR [(ro, words y)] ⟨⟨0, rfl⟩, trivial⟩).subL _ .slnil)⟩
  · have hb9' := of_decide_eq_false hb9
    refine seq_do (v := .bool false) hA rfl rfl rfl (does_bin rfl rfl (fun w => (bin_lss w).trans (by rw [hb9]))) ?_
    intro a hA
    refine seq_end ?_
    refine hK8 _ _ ?_
    refine wp_seq_k (fun K19 hK19 => ?_)
    refine wp_cond_false (hA.ev rfl) ?_
    refine wp_exit ?_
    refine hK3 _ _ ?_
    refine wp_seq_k (fun K20 hK20 => ?_)
    refine wp_region_lit ?_
    refine seq_do hA rfl rfl rfl (does_move rfl) ?_
    intro a hA
    refine seq_do hA rfl rfl rfl (does_assign rfl) ?_
    intro a hA
    refine seq_end ?_
    refine hK20 _ _ ?_
    refine wp_ret ?_
    refine hret _ _ ?_
    refine ends (v := .int .i64 (((popU y (32 * i) : Nat) : Int))) hA rfl (.cons (res_tmp rfl) .nil) rfl ?_
    have hi9 : i = (words y).length := by omega
    subst hi9
    exact ⟨rfl, hS.bel⟩
theorem countPE_any {w : World} {q : Q6} {a1 a2 a3 a4 : Option Addr} {ac1 ac2 ac3 ac4 : Nat} (ha : Nm w q a1 ac1 a2 ac2 a3 ac3 a4 ac4) (hl : LenQ q)  (hw : (want1 q != 0) = true) : Calls Try.prog 16 #[numV q a1 ac1 a2 ac2 a3 ac3 a4 ac4] w (AnsII w (countQ q)) := by
  have hS : St w w [] [(a4, q.q2), (a3, q.t2), (a2, q.q1), (a1, q.t1)] [] := ((((St.start w).addR ha.s1.rd).addR ha.s2.rd).addR ha.s3.rd).addR ha.s4.rd
  refine walk_of (l := [(0, .agg #[.bool q.b1, .slice a1 q.t1.length ac1, .slice a2 q.q1.length ac2, .bool q.b2, .slice a3 q.t2.length ac3, .slice a4 q.q2.length ac4])]) Try.func16 rfl Try.ntmps16 rfl rfl ?_
  intro Q hret hnorm hP a hA
  refine wp_seq_k (fun K1 hK1 => ?_)
  refine wp_region_lit ?_
  refine seq_new (vs := [.bool q.b1, .slice a1 q.t1.length ac1, .slice a2 q.q1.length ac2, .bool q.b2, .slice a3 q.t2.length ac3, .slice a4 q.q2.length ac4]) (t := 26) hA hS rfl rfl rfl (fun g => .pointer (some ⟨g, 0, none⟩)) (does_box rfl rfl) rfl ?_
  intro g2 w3 hS a hA
  refine seq_do hA rfl rfl rfl (does_assign rfl) ?_
  intro a hA
  refine seq_do hA rfl rfl rfl (does_assign rfl) ?_
  intro a hA
  refine seq_end ?_
  refine hK1 _ _ ?_
  refine wp_seq_k (fun K4 hK4 => ?_)
  refine wp_seq_k (fun K5 hK5 => ?_)
  refine wp_region_lit ?_
  refine seq_do (v := .agg #[.bool q.b1, .slice a1 q.t1.length ac1, .slice a2 q.q1.length ac2, .bool q.b2, .slice a3 q.t2.length ac3, .slice a4 q.q2.length ac4]) hA rfl rfl rfl (does_loadS hS isS_26 rfl 0 rfl (cs := [.bool q.b1, .slice a1 q.t1.length ac1, .slice a2 q.q1.length ac2, .bool q.b2, .slice a3 q.t2.length ac3, .slice a4 q.q2.length ac4]) rfl rfl) ?_
  intro a hA
  refine seq_new (vs := [.bool q.b1, .slice a1 q.t1.length ac1, .slice a2 q.q1.length ac2, .bool q.b2, .slice a3 q.t2.length ac3, .slice a4 q.q2.length ac4]) (t := 26) hA hS rfl rfl rfl (fun g => .slice (some ⟨g, 0, none⟩) 1 1) (does_buildSlice rfl (by kernel_rfl)) rfl ?_
  intro g6 w7 hS a hA
  refine seq_call hA rfl rfl rfl (enters_func  rfl rfl (fun w => by kernel_rfl)) (want1_any (show Nm _ q a1 ac1 a2 ac2 a3 ac3 a4 ac4 from ⟨⟨(hS.rd 3 rfl), ha.s1.nil, ha.s1.cap⟩, ⟨(hS.rd 2 rfl), ha.s2.nil, ha.s2.cap⟩, ⟨(hS.rd 1 rfl), ha.s3.nil, ha.s3.cap⟩, ⟨(hS.rd 0 rfl), ha.s4.nil, ha.s4.cap⟩⟩) hl (hS.blk 0 rfl) rfl) ?_
  rintro _ w9 ⟨rfl, hb8⟩
  replace hS := hS.call hb8
  refine ⟨_, rfl, ?_⟩
  intro a hA
  refine seq_do hA rfl rfl rfl (does_assign rfl) ?_
  intro a hA
  refine seq_end ?_
  refine hK5 _ _ ?_
  refine wp_seq_k (fun K10 hK10 => ?_)
  refine wp_region_lit ?_
  refine seq_do hA rfl rfl rfl (does_move rfl) ?_
  intro a hA
  refine seq_do (v := .bool true) hA rfl rfl rfl (does_bin rfl rfl (fun w => (bin_neq w).trans (by rw [show ((want1 q != 0)) = true from hw]))) ?_
  intro a hA
  refine seq_end ?_
  refine hK10 _ _ ?_
  refine wp_cond_true (hA.ev rfl) ?_
  refine wp_seq_k (fun K11 hK11 => ?_)
  refine wp_region_lit ?_
  refine seq_do hA rfl rfl rfl (does_move rfl) ?_
  intro a hA
  refine seq_do hA rfl rfl rfl (does_assign rfl) ?_
  intro a hA
  refine seq_do hA rfl rfl rfl (does_assign rfl) ?_
  intro a hA
  refine seq_end ?_
  refine hK11 _ _ ?_
  refine wp_ret ?_
  refine hret _ _ ?_
  refine ends (v := .tuple #[.int .i64 0, .int .i64 (want1 q)]) hA rfl (.cons (res_tmp rfl) (.cons (res_tmp rfl) .nil)) rfl ?_
  rw [countQ_err hw]
  exact ⟨rfl, hS.bel⟩
theorem countRE_any {w : World} {q : Q6} {a1 a2 a3 a4 : Option Addr} {ac1 ac2 ac3 ac4 : Nat} (ha : Nm w q a1 ac1 a2 ac2 a3 ac3 a4 ac4) (hl : LenQ q)  (hw : (want1 q != 0) = true) : Calls Try.prog 17 #[numV q a1 ac1 a2 ac2 a3 ac3 a4 ac4] w (AnsII w (countQ q)) := by
  have hS : St w w [] [(a4, q.q2), (a3, q.t2), (a2, q.q1), (a1, q.t1)] [] := ((((St.start w).addR ha.s1.rd).addR ha.s2.rd).addR ha.s3.rd).addR ha.s4.rd
  refine walk_of (l := [(0, .agg #[.bool q.b1, .slice a1 q.t1.length ac1, .slice a2 q.q1.length ac2, .bool q.b2, .slice a3 q.t2.length ac3, .slice a4 q.q2.length ac4])]) Try.func17 rfl Try.ntmps17 rfl rfl ?_
  intro Q hret hnorm hP a hA
  refine wp_seq_k (fun K1 hK1 => ?_)
  refine wp_region_lit ?_
  refine seq_new (vs := [.bool q.b1, .slice a1 q.t1.length ac1, .slice a2 q.q1.length ac2, .bool q.b2, .slice a3 q.t2.length ac3, .slice a4 q.q2.length ac4]) (t := 26) hA hS rfl rfl rfl (fun g => .pointer (some ⟨g, 0, none⟩)) (does_box rfl rfl) rfl ?_
  intro g2 w3 hS a hA
  refine seq_do hA rfl rfl rfl (does_assign rfl) ?_
  intro a hA
  refine seq_do hA rfl rfl rfl (does_assign rfl) ?_
  intro a hA
  refine seq_end ?_
  refine hK1 _ _ ?_
  refine wp_seq_k (fun K4 hK4 => ?_)
  refine wp_region_lit ?_
  refine seq_do (v := .agg #[.bool q.b1, .slice a1 q.t1.length ac1, .slice a2 q.q1.length ac2, .bool q.b2, .slice a3 q.t2.length ac3, .slice a4 q.q2.length ac4]) hA rfl rfl rfl (does_loadS hS isS_26 rfl 0 rfl (cs := [.bool q.b1, .slice a1 q.t1.length ac1, .slice a2 q.q1.length ac2, .bool q.b2, .slice a3 q.t2.length ac3, .slice a4 q.q2.length ac4]) rfl rfl) ?_
  intro a hA
  refine seq_new (vs := [.bool q.b1, .slice a1 q.t1.length ac1, .slice a2 q.q1.length ac2, .bool q.b2, .slice a3 q.t2.length ac3, .slice a4 q.q2.length ac4]) (t := 26) hA hS rfl rfl rfl (fun g => .slice (some ⟨g, 0, none⟩) 1 1) (does_buildSlice rfl (by kernel_rfl)) rfl ?_
  intro g5 w6 hS a hA
  refine seq_call hA rfl rfl rfl (enters_func  rfl rfl (fun w => by kernel_rfl)) (rcheck1_any (show Nm _ q a1 ac1 a2 ac2 a3 ac3 a4 ac4 from ⟨⟨(hS.rd 3 rfl), ha.s1.nil, ha.s1.cap⟩, ⟨(hS.rd 2 rfl), ha.s2.nil, ha.s2.cap⟩, ⟨(hS.rd 1 rfl), ha.s3.nil, ha.s3.cap⟩, ⟨(hS.rd 0 rfl), ha.s4.nil, ha.s4.cap⟩⟩) hl (hS.blk 0 rfl) rfl) ?_
  rintro _ w8 ⟨rfl, hb7⟩
  replace hS := hS.call hb7
  refine ⟨_, rfl, ?_⟩
  intro a hA
  refine seq_do hA rfl rfl rfl (does_assign rfl) ?_
  intro a hA
  refine seq_end ?_
  refine hK4 _ _ ?_
  refine wp_seq_k (fun K9 hK9 => ?_)
  refine wp_seq_k (fun K10 hK10 => ?_)
  refine wp_region_lit ?_
  refine seq_do hA rfl rfl rfl (does_move rfl) ?_
  intro a hA
  refine seq_do (v := .bool true) hA rfl rfl rfl (does_bin rfl rfl (fun w => (bin_neq w).trans (by rw [show ((want1 q != 0)) = true from hw]))) ?_
  intro a hA
  refine seq_end ?_
  refine hK10 _ _ ?_
  refine wp_cond_true (hA.ev rfl) ?_
  refine wp_seq_k (fun K11 hK11 => ?_)
  refine wp_region_lit ?_
  refine seq_do hA rfl rfl rfl (does_move rfl) ?_
  intro a hA
  refine seq_do hA rfl rfl rfl (does_assign rfl) ?_
  intro a hA
  refine seq_do hA rfl rfl rfl (does_assign rfl) ?_
  intro a hA
  refine seq_end ?_
  refine hK11 _ _ ?_
  refine wp_ret ?_
  refine hret _ _ ?_
  refine ends (v := .tuple #[.int .i64 0, .int .i64 (want1 q)]) hA rfl (.cons (res_tmp rfl) (.cons (res_tmp rfl) .nil)) rfl ?_
  rw [countQ_err hw]
  exact ⟨rfl, hS.bel⟩
theorem countPW_any {w : World} {b : Bool} {x : Nat} {a1 a2 a3 a4 : Option Addr} {ac1 ac2 ac3 ac4 : Nat} (ha : Nm w (Q6.whole b x) a1 ac1 a2 ac2 a3 ac3 a4 ac4) (hl : LenQ (Q6.whole b x))  (hw : want1 (Q6.whole b x) = 0) (hx : (words x).length ≤ 512) (hb : b.toNat ≤ x) : Calls Try.prog 16 #[numV (Q6.whole b x) a1 ac1 a2 ac2 a3 ac3 a4 ac4] w (AnsII w (countQ (Q6.whole b x))) := by
  cases b
  · have hS : St w w [] [(a4, [1]), (a3, []), (a2, [1]), (a1, words x)] [] := ((((St.start w).addR ha.s1.rd).addR ha.s2.rd).addR ha.s3.rd).addR ha.s4.rd
    refine walk_of (l := [(0, .agg #[.bool false, .slice a1 ((words x).length) ac1, .slice a2 1 ac2, .bool false, .slice a3 0 ac3, .slice a4 1 ac4])]) Try.func16 rfl Try.ntmps16 rfl rfl ?_
    intro Q hret hnorm hP a hA
    refine wp_seq_k (fun K1 hK1 => ?_)
    refine wp_region_lit ?_
    refine seq_new (vs := [.bool false, .slice a1 ((words x).length) ac1, .slice a2 1 ac2, .bool false, .slice a3 0 ac3, .slice a4 1 ac4]) (t := 26) hA hS rfl rfl rfl (fun g => .pointer (some ⟨g, 0, none⟩)) (does_box rfl rfl) rfl ?_
    intro g2 w3 hS a hA
    refine seq_do hA rfl rfl rfl (does_assign rfl) ?_
    intro a hA
    refine seq_do hA rfl rfl rfl (does_assign rfl) ?_
    intro a hA
    refine seq_end ?_
    refine hK1 _ _ ?_
    refine wp_seq_k (fun K4 hK4 => ?_)
    refine wp_seq_k (fun K5 hK5 => ?_)
    refine wp_region_lit ?_
    refine seq_do (v := .agg #[.bool false, .slice a1 ((words x).length) ac1, .slice a2 1 ac2, .bool false, .slice a3 0 ac3, .slice a4 1 ac4]) hA rfl rfl rfl (does_loadS hS isS_26 rfl 0 rfl (cs := [.bool false, .slice a1 ((words x).length) ac1, .slice a2 1 ac2, .bool false, .slice a3 0 ac3, .slice a4 1 ac4]) rfl rfl) ?_
    intro a hA
    refine seq_new (vs := [.bool false, .slice a1 ((words x).length) ac1, .slice a2 1 ac2, .bool false, .slice a3 0 ac3, .slice a4 1 ac4]) (t := 26) hA hS rfl rfl rfl (fun g => .slice (some ⟨g, 0, none⟩) 1 1) (does_buildSlice rfl (by kernel_rfl)) rfl ?_
    intro g6 w7 hS a hA
    refine seq_call hA rfl rfl rfl (enters_func  rfl rfl (fun w => by kernel_rfl)) (want1_any (show Nm _ (Q6.whole false x) a1 ac1 a2 ac2 a3 ac3 a4 ac4 from ⟨⟨(hS.rd 3 rfl), ha.s1.nil, ha.s1.cap⟩, ⟨(hS.rd 2 rfl), ha.s2.nil, ha.s2.cap⟩, ⟨(hS.rd 1 rfl), ha.s3.nil, ha.s3.cap⟩, ⟨(hS.rd 0 rfl), ha.s4.nil, ha.s4.cap⟩⟩) hl (hS.blk 0 rfl) hw) ?_
    rintro _ w9 ⟨rfl, hb8⟩
    replace hS := hS.call hb8
    refine ⟨_, rfl, ?_⟩
    intro a hA
    refine seq_do hA rfl rfl rfl (does_assign rfl) ?_
    intro a hA
    refine seq_end ?_
    refine hK5 _ _ ?_
    refine wp_seq_k (fun K10 hK10 => ?_)
    refine wp_region_lit ?_
    refine seq_do hA rfl rfl rfl (does_move rfl) ?_
    intro a hA
    refine seq_do (v := .bool false) hA rfl rfl rfl (does_bin rfl rfl (fun w => by kernel_rfl)) ?_
    intro a hA
    refine seq_end ?_
    refine hK10 _ _ ?_
    refine wp_cond_false (hA.ev rfl) ?_
    refine wp_skip ?_
    refine hK4 _ _ ?_
    refine wp_seq_k (fun K11 hK11 => ?_)
    refine wp_region_lit ?_
    refine seq_do (v := .agg #[.bool false, .slice a1 ((words x).length) ac1, .slice a2 1 ac2, .bool false, .slice a3 0 ac3, .slice a4 1 ac4]) hA rfl rfl rfl (does_loadS hS isS_26 rfl 1 rfl (cs := [.bool false, .slice a1 ((words x).length) ac1, .slice a2 1 ac2, .bool false, .slice a3 0 ac3, .slice a4 1 ac4]) rfl rfl) ?_
    intro a hA
    refine seq_call hA rfl rfl rfl (enters_func  rfl rfl (fun w => by kernel_rfl)) (rowOf_any (show Nm _ (Q6.whole false x) a1 ac1 a2 ac2 a3 ac3 a4 ac4 from ⟨⟨(hS.rd 3 rfl), ha.s1.nil, ha.s1.cap⟩, ⟨(hS.rd 2 rfl), ha.s2.nil, ha.s2.cap⟩, ⟨(hS.rd 1 rfl), ha.s3.nil, ha.s3.cap⟩, ⟨(hS.rd 0 rfl), ha.s4.nil, ha.s4.cap⟩⟩) hx hb) ?_
    rintro _ w16 ⟨ro12, rc13, rfl, hs14, hb15⟩
    replace hS := hS.call hb15
    replace hS := hS.addR hs14.rd
    refine ⟨_, rfl, ?_⟩
    intro a hA
    refine seq_new (vs := [.bool false, .slice none 0 0]) (t := 49) hA hS rfl rfl rfl (fun g => .pointer (some ⟨g, 0, none⟩)) (does_alloc (z := .agg #[.bool false, .slice none 0 0]) (by kernel_rfl) rfl) rfl ?_
    intro g17 w18 hS a hA
    refine seq_store (us := [.bool false, .slice ro12 ((words (x - false.toNat)).length) rc13]) hA hS rfl rfl (sets_store (cs := [.bool false, .slice ro12 ((words (x - false.toNat)).length) rc13]) rfl rfl rfl (by kernel_rfl) hS 0 rfl rfl rfl) 0 rfl rfl rfl rfl ?_
    intro w19 hS
    refine seq_end ?_
    refine hK11 _ _ ?_
    refine wp_seq_k (fun K20 hK20 => ?_)
    refine wp_seq_k (fun K21 hK21 => ?_)
    refine wp_region_lit ?_
    refine seq_do (v := .pointer (some ⟨g17, 0, none⟩)) hA rfl rfl rfl (does_field fld_49_0 rfl rfl) ?_
    intro a hA
    refine seq_do hA rfl rfl rfl (does_load1 hS is1_4 rfl 0 rfl rfl) ?_
    intro a hA
    refine seq_end ?_
    refine hK21 _ _ ?_
    refine wp_cond_false (hA.ev rfl) ?_
    refine wp_skip ?_
    refine hK20 _ _ ?_
    refine wp_seq_k (fun K22 hK22 => ?_)
    refine wp_region_lit ?_
    refine seq_do (v := .pointer (some ⟨g17, 1, none⟩)) hA rfl rfl rfl (does_field fld_49_1 rfl rfl) ?_
    intro a hA
    refine seq_do hA rfl rfl rfl (does_load1 hS is1_22 rfl 0 rfl rfl) ?_
    intro a hA
    refine seq_call hA rfl rfl rfl (enters_func  rfl rfl (fun w => by kernel_rfl)) (ones_any (hS.rd 0 rfl) (Nat.le_trans (words_mono (Nat.sub_le x _)) hx)) ?_
    rintro _ w24 ⟨rfl, hb23⟩
    replace hS := hS.call hb23
    refine ⟨_, rfl, ?_⟩
    intro a hA
    refine seq_do hA rfl rfl rfl (does_assign rfl) ?_
    intro a hA
    refine seq_do hA rfl rfl rfl (does_assign rfl) ?_
    intro a hA
    refine seq_end ?_
    refine hK22 _ _ ?_
    refine wp_ret ?_
    refine hret _ _ ?_
    refine ends (v := .tuple #[.int .i64 (((popU (x - false.toNat) (32 * (words (x - false.toNat)).length) : Nat) : Int)), .int .i64 0]) hA rfl (.cons (res_tmp rfl) (.cons (res_tmp rfl) .nil)) rfl ?_
    rw [countQ_pos hw]
    exact ⟨rfl, hS.bel⟩
  · have hS : St w w [] [(a4, [1]), (a3, []), (a2, [1]), (a1, words x)] [] := ((((St.start w).addR ha.s1.rd).addR ha.s2.rd).addR ha.s3.rd).addR ha.s4.rd
    refine walk_of (l := [(0, .agg #[.bool true, .slice a1 ((words x).length) ac1, .slice a2 1 ac2, .bool false, .slice a3 0 ac3, .slice a4 1 ac4])]) Try.func16 rfl Try.ntmps16 rfl rfl ?_
    intro Q hret hnorm hP a hA
    refine wp_seq_k (fun K1 hK1 => ?_)
    refine wp_region_lit ?_
    refine seq_new (vs := [.bool true, .slice a1 ((words x).length) ac1, .slice a2 1 ac2, .bool false, .slice a3 0 ac3, .slice a4 1 ac4]) (t := 26) hA hS rfl rfl rfl (fun g => .pointer (some ⟨g, 0, none⟩)) (does_box rfl rfl) rfl ?_
    intro g2 w3 hS a hA
    refine seq_do hA rfl rfl rfl (does_assign rfl) ?_
    intro a hA
    refine seq_do hA rfl rfl rfl (does_assign rfl) ?_
    intro a hA
    refine seq_end ?_
    refine hK1 _ _ ?_
    refine wp_seq_k (fun K4 hK4 => ?_)
    refine wp_seq_k (fun K5 hK5 => ?_)
    refine wp_region_lit ?_
    refine seq_do (v := .agg #[.bool true, .slice a1 ((words x).length) ac1, .slice a2 1 ac2, .bool false, .slice a3 0 ac3, .slice a4 1 ac4]) hA rfl rfl rfl (does_loadS hS isS_26 rfl 0 rfl (cs := [.bool true, .slice a1 ((words x).length) ac1, .slice a2 1 ac2, .bool false, .slice a3 0 ac3, .slice a4 1 ac4]) rfl rfl) ?_
    intro a hA
    refine seq_new (vs := [.bool true, .slice a1 ((words x).length) ac1, .slice a2 1 ac2, .bool false, .slice a3 0 ac3, .slice a4 1 ac4]) (t := 26) hA hS rfl rfl rfl (fun g => .slice (some ⟨g, 0, none⟩) 1 1) (does_buildSlice rfl (by kernel_rfl)) rfl ?_
    intro g6 w7 hS a hA
    refine seq_call hA rfl rfl rfl (enters_func  rfl rfl (fun w => by kernel_rfl)) (want1_any (show Nm _ (Q6.whole true x) a1 ac1 a2 ac2 a3 ac3 a4 ac4 from ⟨⟨(hS.rd 3 rfl), ha.s1.nil, ha.s1.cap⟩, ⟨(hS.rd 2 rfl), ha.s2.nil, ha.s2.cap⟩, ⟨(hS.rd 1 rfl), ha.s3.nil, ha.s3.cap⟩, ⟨(hS.rd 0 rfl), ha.s4.nil, ha.s4.cap⟩⟩) hl (hS.blk 0 rfl) hw) ?_
    rintro _ w9 ⟨rfl, hb8⟩
    replace hS := hS.call hb8
    refine ⟨_, rfl, ?_⟩
    intro a hA
    refine seq_do hA rfl rfl rfl (does_assign rfl) ?_
    intro a hA
    refine seq_end ?_
    refine hK5 _ _ ?_
    refine wp_seq_k (fun K10 hK10 => ?_)
    refine wp_region_lit ?_
    refine seq_do hA rfl rfl rfl (does_move rfl) ?_
    intro a hA
    refine seq_do (v := .bool false) hA rfl rfl rfl (does_bin rfl rfl (fun w => by kernel_rfl)) ?_
    intro a hA
    refine seq_end ?_
    refine hK10 _ _ ?_
    refine wp_cond_false (hA.ev rfl) ?_
    refine wp_skip ?_
    refine hK4 _ _ ?_
    refine wp_seq_k (fun K11 hK11 => ?_)
    refine wp_region_lit ?_
    refine seq_do (v := .agg #[.bool true, .slice a1 ((words x).length) ac1, .slice a2 1 ac2, .bool false, .slice a3 0 ac3, .slice a4 1 ac4]) hA rfl rfl rfl (does_loadS hS isS_26 rfl 1 rfl (cs := [.bool true, .slice a1 ((words x).length) ac1, .slice a2 1 ac2, .bool false, .slice a3 0 ac3, .slice a4 1 ac4]) rfl rfl) ?_
    intro a hA
    refine seq_call hA rfl rfl rfl (enters_func  rfl rfl (fun w => by kernel_rfl)) (rowOf_any (show Nm _ (Q6.whole true x) a1 ac1 a2 ac2 a3 ac3 a4 ac4 from ⟨⟨(hS.rd 3 rfl), ha.s1.nil, ha.s1.cap⟩, ⟨(hS.rd 2 rfl), ha.s2.nil, ha.s2.cap⟩, ⟨(hS.rd 1 rfl), ha.s3.nil, ha.s3.cap⟩, ⟨(hS.rd 0 rfl), ha.s4.nil, ha.s4.cap⟩⟩) hx hb) ?_
    rintro _ w16 ⟨ro12, rc13, rfl, hs14, hb15⟩
    replace hS := hS.call hb15
    replace hS := hS.addR hs14.rd
    refine ⟨_, rfl, ?_⟩
    intro a hA
    refine seq_new (vs := [.bool false, .slice none 0 0]) (t := 49) hA hS rfl rfl rfl (fun g => .pointer (some ⟨g, 0, none⟩)) (does_alloc (z := .agg #[.bool false, .slice none 0 0]) (by kernel_rfl) rfl) rfl ?_
    intro g17 w18 hS a hA
    refine seq_store (us := [.bool true, .slice ro12 ((words (x - true.toNat)).length) rc13]) hA hS rfl rfl (sets_store (cs := [.bool true, .slice ro12 ((words (x - true.toNat)).length) rc13]) rfl rfl rfl (by kernel_rfl) hS 0 rfl rfl rfl) 0 rfl rfl rfl rfl ?_
    intro w19 hS
    refine seq_end ?_
    refine hK11 _ _ ?_
    refine wp_seq_k (fun K20 hK20 => ?_)
    refine wp_seq_k (fun K21 hK21 => ?_)
    refine wp_region_lit ?_
    refine seq_do (v := .pointer (some ⟨g17, 0, none⟩)) hA rfl rfl rfl (does_field fld_49_0 rfl rfl) ?_
    intro a hA
    refine seq_do hA rfl rfl rfl (does_load1 hS is1_4 rfl 0 rfl rfl) ?_
    intro a hA
    refine seq_end ?_
    refine hK21 _ _ ?_
    refine wp_cond_true (hA.ev rfl) ?_
    refine wp_seq_k (fun K22 hK22 => ?_)
    refine wp_region_lit ?_
    refine seq_do (v := .pointer (some ⟨g17, 1, none⟩)) hA rfl rfl rfl (does_field fld_49_1 rfl rfl) ?_
    intro a hA
    refine seq_do hA rfl rfl rfl (does_load1 hS is1_22 rfl 0 rfl rfl) ?_
    intro a hA
    refine seq_call hA rfl rfl rfl (enters_func  rfl rfl (fun w => by kernel_rfl)) (ones_any (hS.rd 0 rfl) (Nat.le_trans (words_mono (Nat.sub_le x _)) hx)) ?_
    rintro _ w24 ⟨rfl, hb23⟩
    replace hS := hS.call hb23
    refine ⟨_, rfl, ?_⟩
    intro a hA
    refine seq_do (v := .int .i64 (-((popU (x - true.toNat) (32 * (words (x - true.toNat)).length) : Nat) : Int) - 1)) hA rfl rfl rfl (does_un rfl (un_xor (Nat.le_trans (popU_le _ _) (by have := words_mono (Nat.sub_le x true.toNat); omega)))) ?_
    intro a hA
    refine seq_do hA rfl rfl rfl (does_assign rfl) ?_
    intro a hA
    refine seq_do hA rfl rfl rfl (does_assign rfl) ?_
    intro a hA
    refine seq_end ?_
    refine hK22 _ _ ?_
    refine wp_ret ?_
    refine hret _ _ ?_
    refine ends (v := .tuple #[.int .i64 (-((popU (x - true.toNat) (32 * (words (x - true.toNat)).length) : Nat) : Int) - 1), .int .i64 0]) hA rfl (.cons (res_tmp rfl) (.cons (res_tmp rfl) .nil)) rfl ?_
    rw [countQ_neg hw]
    exact ⟨rfl, hS.bel⟩
theorem countRW_any {w : World} {b : Bool} {x : Nat} {a1 a2 a3 a4 : Option Addr} {ac1 ac2 ac3 ac4 : Nat} (ha : Nm w (Q6.whole b x) a1 ac1 a2 ac2 a3 ac3 a4 ac4) (hl : LenQ (Q6.whole b x))  (hw : want1 (Q6.whole b x) = 0) (hx : (words x).length ≤ 512) (hb : b.toNat ≤ x) : Calls Try.prog 17 #[numV (Q6.whole b x) a1 ac1 a2 ac2 a3 ac3 a4 ac4] w (AnsII w (countQ (Q6.whole b x))) := by
  cases b
  · have hlen : (words (x)).length ≤ 513 := by omega
    have hS : St w w [] [(a4, [1]), (a3, []), (a2, [1]), (a1, words x)] [] := ((((St.start w).addR ha.s1.rd).addR ha.s2.rd).addR ha.s3.rd).addR ha.s4.rd
    refine walk_of (l := [(0, .agg #[.bool false, .slice a1 ((words x).length) ac1, .slice a2 1 ac2, .bool false, .slice a3 0 ac3, .slice a4 1 ac4])]) Try.func17 rfl Try.ntmps17 rfl rfl ?_
    intro Q hret hnorm hP a hA
    refine wp_seq_k (fun K1 hK1 => ?_)
    refine wp_region_lit ?_
    refine seq_new (vs := [.bool false, .slice a1 ((words x).length) ac1, .slice a2 1 ac2, .bool false, .slice a3 0 ac3, .slice a4 1 ac4]) (t := 26) hA hS rfl rfl rfl (fun g => .pointer (some ⟨g, 0, none⟩)) (does_box rfl rfl) rfl ?_
    intro g2 w3 hS a hA
    refine seq_do hA rfl rfl rfl (does_assign rfl) ?_
    intro a hA
    refine seq_do hA rfl rfl rfl (does_assign rfl) ?_
    intro a hA
    refine seq_end ?_
    refine hK1 _ _ ?_
    refine wp_seq_k (fun K4 hK4 => ?_)
    refine wp_region_lit ?_
    refine seq_do (v := .agg #[.bool false, .slice a1 ((words x).length) ac1, .slice a2 1 ac2, .bool false, .slice a3 0 ac3, .slice a4 1 ac4]) hA rfl rfl rfl (does_loadS hS isS_26 rfl 0 rfl (cs := [.bool false, .slice a1 ((words x).length) ac1, .slice a2 1 ac2, .bool false, .slice a3 0 ac3, .slice a4 1 ac4]) rfl rfl) ?_
    intro a hA
    refine seq_new (vs := [.bool false, .slice a1 ((words x).length) ac1, .slice a2 1 ac2, .bool false, .slice a3 0 ac3, .slice a4 1 ac4]) (t := 26) hA hS rfl rfl rfl (fun g => .slice (some ⟨g, 0, none⟩) 1 1) (does_buildSlice rfl (by kernel_rfl)) rfl ?_
    intro g5 w6 hS a hA
    refine seq_call hA rfl rfl rfl (enters_func  rfl rfl (fun w => by kernel_rfl)) (rcheck1_any (show Nm _ (Q6.whole false x) a1 ac1 a2 ac2 a3 ac3 a4 ac4 from ⟨⟨(hS.rd 3 rfl), ha.s1.nil, ha.s1.cap⟩, ⟨(hS.rd 2 rfl), ha.s2.nil, ha.s2.cap⟩, ⟨(hS.rd 1 rfl), ha.s3.nil, ha.s3.cap⟩, ⟨(hS.rd 0 rfl), ha.s4.nil, ha.s4.cap⟩⟩) hl (hS.blk 0 rfl) hw) ?_
    rintro _ w8 ⟨rfl, hb7⟩
    replace hS := hS.call hb7
    refine ⟨_, rfl, ?_⟩
    intro a hA
    refine seq_do hA rfl rfl rfl (does_assign rfl) ?_
    intro a hA
    refine seq_end ?_
    refine hK4 _ _ ?_
    refine wp_seq_k (fun K9 hK9 => ?_)
    refine wp_seq_k (fun K10 hK10 => ?_)
    refine wp_region_lit ?_
    refine seq_do hA rfl rfl rfl (does_move rfl) ?_
    intro a hA
    refine seq_do (v := .bool false) hA rfl rfl rfl (does_bin rfl rfl (fun w => by kernel_rfl)) ?_
    intro a hA
    refine seq_end ?_
    refine hK10 _ _ ?_
    refine wp_cond_false (hA.ev rfl) ?_
    refine wp_skip ?_
    refine hK9 _ _ ?_
    refine wp_seq_k (fun K11 hK11 => ?_)
    refine wp_region_lit ?_
    refine seq_do (v := .agg #[.bool false, .slice a1 ((words x).length) ac1, .slice a2 1 ac2, .bool false, .slice a3 0 ac3, .slice a4 1 ac4]) hA rfl rfl rfl (does_loadS hS isS_26 rfl 1 rfl (cs := [.bool false, .slice a1 ((words x).length) ac1, .slice a2 1 ac2, .bool false, .slice a3 0 ac3, .slice a4 1 ac4]) rfl rfl) ?_
    intro a hA
    refine seq_new (vs := [.bool false, .slice none 0 0, .slice none 0 0, .bool false, .slice none 0 0, .slice none 0 0]) (t := 26) hA hS rfl rfl rfl (fun g => .pointer (some ⟨g, 0, none⟩)) (does_alloc (z := .agg #[.bool false, .slice none 0 0, .slice none 0 0, .bool false, .slice none 0 0, .slice none 0 0]) (by kernel_rfl) rfl) rfl ?_
    intro g12 w13 hS a hA
    refine seq_store (us := [.bool false, .slice a1 ((words x).length) ac1, .slice a2 1 ac2, .bool false, .slice a3 0 ac3, .slice a4 1 ac4]) hA hS rfl rfl (sets_store (cs := [.bool false, .slice a1 ((words x).length) ac1, .slice a2 1 ac2, .bool false, .slice a3 0 ac3, .slice a4 1 ac4]) rfl rfl rfl (by kernel_rfl) hS 0 rfl rfl rfl) 0 rfl rfl rfl rfl ?_
    intro w14 hS
    refine seq_end ?_
    refine hK11 _ _ ?_
    refine wp_seq_k (fun K15 hK15 => ?_)
    refine wp_seq_k (fun K16 hK16 => ?_)
    refine wp_region_lit ?_
    refine seq_do (v := .pointer (some ⟨g2, 0, none⟩)) hA rfl rfl rfl (does_field fld_26_0 rfl rfl) ?_
    intro a hA
    refine seq_do (v := .pointer (some ⟨g2, 0, none⟩)) hA rfl rfl rfl (does_field fld_24_0 rfl rfl) ?_
    intro a hA
    refine seq_do hA rfl rfl rfl (does_load1 hS is1_4 rfl 2 rfl rfl) ?_
    intro a hA
    refine seq_end ?_
    refine hK16 _ _ ?_
    refine wp_cond_false (hA.ev rfl) ?_
    refine wp_skip ?_
    refine hK15 _ _ ?_
    refine wp_seq_k (fun K17 hK17 => ?_)
    refine wp_region_lit ?_
    refine seq_do hA rfl rfl rfl (does_assign rfl) ?_
    intro a hA
    refine seq_end ?_
    refine hK17 _ _ ?_
    refine wp_seq_k (fun K18 hK18 => ?_)
    refine wp_seq_k (fun K19 hK19 => ?_)
    refine wp_region_lit ?_
    refine seq_do hA rfl rfl rfl (does_assign rfl) ?_
    intro a hA
    refine seq_end ?_
    refine hK19 _ _ ?_
    refine wp_block ?_
    refine wp_loop_n (fun m a w1 => ∃ (k : Nat), m = 32 * (words (x)).length - k ∧ (k ≤ 32 * (words (x)).length) ∧ Sl a 44 [(0, .agg #[.bool false, .slice a1 ((words x).length) ac1, .slice a2 1 ac2, .bool false, .slice a3 0 ac3, .slice a4 1 ac4]), (1, .pointer (some ⟨g2, 0, none⟩)), (2, .int .i64 0), (3, .int .i64 0), (4, .int .i64 0), (5, .pointer (some ⟨g12, 0, none⟩)), (6, .int .i64 (((popU (x) k : Nat) : Int))), (7, .int .i64 (((k : Nat) : Int))), (8, .agg #[.bool false, .slice a1 ((words x).length) ac1, .slice a2 1 ac2, .bool false, .slice a3 0 ac3, .slice a4 1 ac4]), (9, .slice (some ⟨g5, 0, none⟩) 1 1), (10, .int .i64 0), (11, .int .i64 0), (12, .bool false), (14, .agg #[.bool false, .slice a1 ((words x).length) ac1, .slice a2 1 ac2, .bool false, .slice a3 0 ac3, .slice a4 1 ac4]), (15, .pointer (some ⟨g2, 0, none⟩)), (16, .pointer (some ⟨g2, 0, none⟩)), (17, .bool false)] ∧ St w w1 [(g12, [.bool false, .slice a1 ((words x).length) ac1, .slice a2 1 ac2, .bool false, .slice a3 0 ac3, .slice a4 1 ac4]), (g5, [.bool false, .slice a1 ((words x).length) ac1, .slice a2 1 ac2, .bool false, .slice a3 0 ac3, .slice a4 1 ac4]), (g2, [.bool false, .slice a1 ((words x).length) ac1, .slice a2 1 ac2, .bool false, .slice a3 0 ac3, .slice a4 1 ac4])] [(a4, [1]), (a3, []), (a2, [1]), (a1, words x)] []) _ ⟨0, rfl, (Nat.zero_le _), hA.keep _ ⟨rfl, rfl, rfl, rfl, rfl, rfl, rfl, rfl, rfl, rfl, rfl, rfl, rfl, rfl, rfl, rfl, rfl, trivial⟩, hS⟩ ?_
    clear hS hA
    rintro m a w20 ⟨k, rfl, hinv22, hA, hS⟩ K21 hK21
    have hp9 := popU_le (x) k
    refine wp_seq_k (fun K23 hK23 => ?_)
    refine wp_seq_k (fun K24 hK24 => ?_)
    refine wp_region_lit ?_
    refine seq_do hA rfl rfl rfl (does_move rfl) ?_
    intro a hA
    refine seq_do (v := .pointer (some ⟨g12, 0, none⟩)) hA rfl rfl rfl (does_field fld_26_0 rfl rfl) ?_
    intro a hA
    refine seq_do (v := .pointer (some ⟨g12, 1, none⟩)) hA rfl rfl rfl (does_field fld_24_1 rfl rfl) ?_
    intro a hA
    refine seq_do hA rfl rfl rfl (does_load1 hS is1_22 rfl 0 rfl rfl) ?_
    intro a hA
    refine seq_do (v := .int .i64 ((((words x).length : Nat) : Int))) hA rfl rfl rfl (does_len Try.underlying22 rfl) ?_
    intro a hA
    refine seq_do (v := .int .i64 (((32 * (words x).length : Nat) : Int))) hA rfl rfl rfl (does_bin rfl rfl (bin_mul32 (by omega))) ?_
    intro a hA
    rcases Bool.eq_false_or_eq_true (decide (((k : Nat) : Int) < ((32 * (words x).length : Nat) : Int))) with hb25 | hb25
    · have hb25' := of_decide_eq_true hb25
      refine seq_do (v := .bool true) hA rfl rfl rfl (does_bin rfl rfl (fun w => (bin_lss w).trans (by rw [hb25]))) ?_
      intro a hA
      refine seq_end ?_
      refine hK24 _ _ ?_
      refine wp_cond_true (hA.ev rfl) ?_
      refine wp_skip ?_
      refine hK23 _ _ ?_
      refine wp_seq_k (fun K26 hK26 => ?_)
      refine wp_block ?_
      refine wp_region_lit ?_
      refine seq_do hA rfl rfl rfl (does_move rfl) ?_
      intro a hA
      refine seq_do (v := .pointer (some ⟨g12, 0, none⟩)) hA rfl rfl rfl (does_field fld_26_0 rfl rfl) ?_
      intro a hA
      refine seq_do (v := .pointer (some ⟨g12, 1, none⟩)) hA rfl rfl rfl (does_field fld_24_1 rfl rfl) ?_
      intro a hA
      refine seq_do hA rfl rfl rfl (does_load1 hS is1_22 rfl 0 rfl rfl) ?_
      intro a hA
      refine seq_do hA rfl rfl rfl (does_move rfl) ?_
      intro a hA
      refine seq_call hA rfl rfl rfl (enters_func  rfl rfl (fun w => by kernel_rfl)) (bit_any (x := x) _ k (hS.rd 3 rfl) (by omega)) ?_
      rintro _ w28 ⟨rfl, hb27⟩
      replace hb27 := below_eq hb27
      replace hS := hS.call hb27
      refine ⟨_, rfl, ?_⟩
      intro a hA
      refine seq_do (v := .int .i64 (((x / 2 ^ k % 2 : Nat) : Int))) hA rfl rfl rfl (does_convert rfl (conv_u32 Try.underlying41 Try.underlying3 (by omega))) ?_
      intro a hA
      refine seq_do (v := .int .i64 (((popU (x) (k + 1) : Nat) : Int))) hA rfl rfl rfl (does_bin rfl rfl (bin_addN rfl (Nat.le_trans (popU_le _ _) (by omega)))) ?_
      intro a hA
      refine seq_do hA rfl rfl rfl (does_assign rfl) ?_
      intro a hA
      refine seq_end ?_
      refine hK26 _ _ ?_
      refine wp_region_lit ?_
      refine seq_do hA rfl rfl rfl (does_move rfl) ?_
      intro a hA
      refine seq_do (v := .int .i64 (((k + 1 : Nat) : Int))) hA rfl rfl rfl (does_bin rfl rfl (fun w => (bin_add (i64In (by omega) (by omega)) w).trans (by rw [show (((k : Nat) : Int) + 1 : Int) = ((k + 1 : Nat) : Int) from by omega]))) ?_
      intro a hA
      refine seq_do hA rfl rfl rfl (does_assign rfl) ?_
      intro a hA
      refine seq_end ?_
      refine hK21 _ _ _ (by omega) ⟨k + 1, rfl, (by omega), hA.keep _ ⟨rfl, rfl, rfl, rfl, rfl, rfl, rfl, rfl, rfl, rfl, rfl, rfl, rfl, rfl, rfl, rfl, rfl, trivial⟩, ((hS.pickR [(a4, [1]), (a3, []), (a2, [1]), (a1, words x)] ⟨⟨0, rfl⟩, ⟨⟨1, rfl⟩, ⟨⟨2, rfl⟩, ⟨⟨3, rfl⟩, trivial⟩⟩⟩⟩).subL _ (.cons_cons _ (.cons_cons _ (.cons_cons _ .slnil))))⟩
    · have hb25' := of_decide_eq_false hb25
      refine seq_do (v := .bool false) hA rfl rfl rfl (does_bin rfl rfl (fun w => (bin_lss w).trans (by rw [hb25]))) ?_
      intro a hA
      refine seq_end ?_
      refine hK24 _ _ ?_
      refine wp_cond_false (hA.ev rfl) ?_
      refine wp_exit ?_
      refine hK18 _ _ ?_
      refine wp_seq_k (fun K29 hK29 => ?_)
      refine wp_seq_k (fun K30 hK30 => ?_)
      refine wp_region_lit ?_
      refine seq_do (v := .pointer (some ⟨g2, 0, none⟩)) hA rfl rfl rfl (does_field fld_26_0 rfl rfl) ?_
      intro a hA
      refine seq_do (v := .pointer (some ⟨g2, 0, none⟩)) hA rfl rfl rfl (does_field fld_24_0 rfl rfl) ?_
      intro a hA
      refine seq_do hA rfl rfl rfl (does_load1 hS is1_4 rfl 2 rfl rfl) ?_
      intro a hA
      refine seq_end ?_
      refine hK30 _ _ ?_
      refine wp_cond_false (hA.ev rfl) ?_
      refine wp_skip ?_
      refine hK29 _ _ ?_
      refine wp_seq_k (fun K31 hK31 => ?_)
      refine wp_region_lit ?_
      refine seq_do hA rfl rfl rfl (does_move rfl) ?_
      intro a hA
      refine seq_do hA rfl rfl rfl (does_assign rfl) ?_
      intro a hA
      refine seq_do hA rfl rfl rfl (does_assign rfl) ?_
      intro a hA
      refine seq_end ?_
      refine hK31 _ _ ?_
      refine wp_ret ?_
      refine hret _ _ ?_
      refine ends (v := .tuple #[.int .i64 (((popU (x) k : Nat) : Int)), .int .i64 0]) hA rfl (.cons (res_tmp rfl) (.cons (res_tmp rfl) .nil)) rfl ?_
      have hk9 : k = 32 * (words (x)).length := by omega
      subst hk9
      rw [countQ_pos hw]
      exact ⟨rfl, hS.bel⟩
  · have hlen : (words (turnN true x)).length ≤ 513 := turn_len hx
    have hS : St w w [] [(a4, [1]), (a3, []), (a2, [1]), (a1, words x)] [] := ((((St.start w).addR ha.s1.rd).addR ha.s2.rd).addR ha.s3.rd).addR ha.s4.rd
    refine walk_of (l := [(0, .agg #[.bool true, .slice a1 ((words x).length) ac1, .slice a2 1 ac2, .bool false, .slice a3 0 ac3, .slice a4 1 ac4])]) Try.func17 rfl Try.ntmps17 rfl rfl ?_
    intro Q hret hnorm hP a hA
    refine wp_seq_k (fun K1 hK1 => ?_)
    refine wp_region_lit ?_
    refine seq_new (vs := [.bool true, .slice a1 ((words x).length) ac1, .slice a2 1 ac2, .bool false, .slice a3 0 ac3, .slice a4 1 ac4]) (t := 26) hA hS rfl rfl rfl (fun g => .pointer (some ⟨g, 0, none⟩)) (does_box rfl rfl) rfl ?_
    intro g2 w3 hS a hA
    refine seq_do hA rfl rfl rfl (does_assign rfl) ?_
    intro a hA
    refine seq_do hA rfl rfl rfl (does_assign rfl) ?_
    intro a hA
    refine seq_end ?_
    refine hK1 _ _ ?_
    refine wp_seq_k (fun K4 hK4 => ?_)
    refine wp_region_lit ?_
    refine seq_do (v := .agg #[.bool true, .slice a1 ((words x).length) ac1, .slice a2 1 ac2, .bool false, .slice a3 0 ac3, .slice a4 1 ac4]) hA rfl rfl rfl (does_loadS hS isS_26 rfl 0 rfl (cs := [.bool true, .slice a1 ((words x).length) ac1, .slice a2 1 ac2, .bool false, .slice a3 0 ac3, .slice a4 1 ac4]) rfl rfl) ?_
    intro a hA
    refine seq_new (vs := [.bool true, .slice a1 ((words x).length) ac1, .slice a2 1 ac2, .bool false, .slice a3 0 ac3, .slice a4 1 ac4]) (t := 26) hA hS rfl rfl rfl (fun g => .slice (some ⟨g, 0, none⟩) 1 1) (does_buildSlice rfl (by kernel_rfl)) rfl ?_
    intro g5 w6 hS a hA
    refine seq_call hA rfl rfl rfl (enters_func  rfl rfl (fun w => by kernel_rfl)) (rcheck1_any (show Nm _ (Q6.whole true x) a1 ac1 a2 ac2 a3 ac3 a4 ac4 from ⟨⟨(hS.rd 3 rfl), ha.s1.nil, ha.s1.cap⟩, ⟨(hS.rd 2 rfl), ha.s2.nil, ha.s2.cap⟩, ⟨(hS.rd 1 rfl), ha.s3.nil, ha.s3.cap⟩, ⟨(hS.rd 0 rfl), ha.s4.nil, ha.s4.cap⟩⟩) hl (hS.blk 0 rfl) hw) ?_
    rintro _ w8 ⟨rfl, hb7⟩
    replace hS := hS.call hb7
    refine ⟨_, rfl, ?_⟩
    intro a hA
    refine seq_do hA rfl rfl rfl (does_assign rfl) ?_
    intro a hA
    refine seq_end ?_
    refine hK4 _ _ ?_
    refine wp_seq_k (fun K9 hK9 => ?_)
    refine wp_seq_k (fun K10 hK10 => ?_)
    refine wp_region_lit ?_
    refine seq_do hA rfl rfl rfl (does_move rfl) ?_
    intro a hA
    refine seq_do (v := .bool false) hA rfl rfl rfl (does_bin rfl rfl (fun w => by kernel_rfl)) ?_
    intro a hA
    refine seq_end ?_
    refine hK10 _ _ ?_
    refine wp_cond_false (hA.ev rfl) ?_
    refine wp_skip ?_
    refine hK9 _ _ ?_
    refine wp_seq_k (fun K11 hK11 => ?_)
    refine wp_region_lit ?_
    refine seq_do (v := .agg #[.bool true, .slice a1 ((words x).length) ac1, .slice a2 1 ac2, .bool false, .slice a3 0 ac3, .slice a4 1 ac4]) hA rfl rfl rfl (does_loadS hS isS_26 rfl 1 rfl (cs := [.bool true, .slice a1 ((words x).length) ac1, .slice a2 1 ac2, .bool false, .slice a3 0 ac3, .slice a4 1 ac4]) rfl rfl) ?_
    intro a hA
    refine seq_new (vs := [.bool false, .slice none 0 0, .slice none 0 0, .bool false, .slice none 0 0, .slice none 0 0]) (t := 26) hA hS rfl rfl rfl (fun g => .pointer (some ⟨g, 0, none⟩)) (does_alloc (z := .agg #[.bool false, .slice none 0 0, .slice none 0 0, .bool false, .slice none 0 0, .slice none 0 0]) (by kernel_rfl) rfl) rfl ?_
    intro g12 w13 hS a hA
    refine seq_store (us := [.bool true, .slice a1 ((words x).length) ac1, .slice a2 1 ac2, .bool false, .slice a3 0 ac3, .slice a4 1 ac4]) hA hS rfl rfl (sets_store (cs := [.bool true, .slice a1 ((words x).length) ac1, .slice a2 1 ac2, .bool false, .slice a3 0 ac3, .slice a4 1 ac4]) rfl rfl rfl (by kernel_rfl) hS 0 rfl rfl rfl) 0 rfl rfl rfl rfl ?_
    intro w14 hS
    refine seq_end ?_
    refine hK11 _ _ ?_
    refine wp_seq_k (fun K15 hK15 => ?_)
    refine wp_seq_k (fun K16 hK16 => ?_)
    refine wp_region_lit ?_
    refine seq_do (v := .pointer (some ⟨g2, 0, none⟩)) hA rfl rfl rfl (does_field fld_26_0 rfl rfl) ?_
    intro a hA
    refine seq_do (v := .pointer (some ⟨g2, 0, none⟩)) hA rfl rfl rfl (does_field fld_24_0 rfl rfl) ?_
    intro a hA
    refine seq_do hA rfl rfl rfl (does_load1 hS is1_4 rfl 2 rfl rfl) ?_
    intro a hA
    refine seq_end ?_
    refine hK16 _ _ ?_
    refine wp_cond_true (hA.ev rfl) ?_
    refine wp_region_lit ?_
    refine seq_do (v := .agg #[.bool true, .slice a1 ((words x).length) ac1, .slice a2 1 ac2, .bool false, .slice a3 0 ac3, .slice a4 1 ac4]) hA rfl rfl rfl (does_loadS hS isS_26 rfl 2 rfl (cs := [.bool true, .slice a1 ((words x).length) ac1, .slice a2 1 ac2, .bool false, .slice a3 0 ac3, .slice a4 1 ac4]) rfl rfl) ?_
    intro a hA
    refine seq_call hA rfl rfl rfl (enters_func  rfl rfl (fun w => by kernel_rfl)) (rturn_any (b := true) (x := x) (show Nm _ _ a1 ac1 a2 ac2 a3 ac3 a4 ac4 from ⟨⟨(hS.rd 3 rfl), ha.s1.nil, ha.s1.cap⟩, ⟨(hS.rd 2 rfl), ha.s2.nil, ha.s2.cap⟩, ⟨(hS.rd 1 rfl), ha.s3.nil, ha.s3.cap⟩, ⟨(hS.rd 0 rfl), ha.s4.nil, ha.s4.cap⟩⟩) (by omega) hb) ?_
    rintro _ w20 ⟨p17_1, p17_c1, p17_2, p17_c2, p17_3, p17_c3, p17_4, p17_c4, rfl, hn18, hb19⟩
    replace hS := hS.call hb19
    replace hS := hS.addR hn18.s1.rd
    replace hS := hS.addR hn18.s2.rd
    replace hS := hS.addR hn18.s3.rd
    replace hS := hS.addR hn18.s4.rd
    refine ⟨_, rfl, ?_⟩
    intro a hA
    refine seq_store (us := [.bool false, .slice p17_1 ((words (turnN true x)).length) p17_c1, .slice p17_2 1 p17_c2, .bool false, .slice p17_3 0 p17_c3, .slice p17_4 1 p17_c4]) hA hS rfl rfl (sets_store (cs := [.bool false, .slice p17_1 ((words (turnN true x)).length) p17_c1, .slice p17_2 1 p17_c2, .bool false, .slice p17_3 0 p17_c3, .slice p17_4 1 p17_c4]) rfl rfl rfl (by kernel_rfl) hS 0 rfl rfl rfl) 0 rfl rfl rfl rfl ?_
    intro w21 hS
    refine seq_end ?_
    refine hK15 _ _ ?_
    refine wp_seq_k (fun K22 hK22 => ?_)
    refine wp_region_lit ?_
    refine seq_do hA rfl rfl rfl (does_assign rfl) ?_
    intro a hA
    refine seq_end ?_
    refine hK22 _ _ ?_
    refine wp_seq_k (fun K23 hK23 => ?_)
    refine wp_seq_k (fun K24 hK24 => ?_)
    refine wp_region_lit ?_
    refine seq_do hA rfl rfl rfl (does_assign rfl) ?_
    intro a hA
    refine seq_end ?_
    refine hK24 _ _ ?_
    refine wp_block ?_
    refine wp_loop_n (fun m a w1 => ∃ (k : Nat), m = 32 * (words (turnN true x)).length - k ∧ (k ≤ 32 * (words (turnN true x)).length) ∧ Sl a 44 [(0, .agg #[.bool true, .slice a1 ((words x).length) ac1, .slice a2 1 ac2, .bool false, .slice a3 0 ac3, .slice a4 1 ac4]), (1, .pointer (some ⟨g2, 0, none⟩)), (2, .int .i64 0), (3, .int .i64 0), (4, .int .i64 0), (5, .pointer (some ⟨g12, 0, none⟩)), (6, .int .i64 (((popU (turnN true x) k : Nat) : Int))), (7, .int .i64 (((k : Nat) : Int))), (8, .agg #[.bool true, .slice a1 ((words x).length) ac1, .slice a2 1 ac2, .bool false, .slice a3 0 ac3, .slice a4 1 ac4]), (9, .slice (some ⟨g5, 0, none⟩) 1 1), (10, .int .i64 0), (11, .int .i64 0), (12, .bool false), (14, .agg #[.bool true, .slice a1 ((words x).length) ac1, .slice a2 1 ac2, .bool false, .slice a3 0 ac3, .slice a4 1 ac4]), (15, .pointer (some ⟨g2, 0, none⟩)), (16, .pointer (some ⟨g2, 0, none⟩)), (17, .bool true), (18, .agg #[.bool true, .slice a1 ((words x).length) ac1, .slice a2 1 ac2, .bool false, .slice a3 0 ac3, .slice a4 1 ac4]), (19, .agg #[.bool false, .slice p17_1 ((words (turnN true x)).length) p17_c1, .slice p17_2 1 p17_c2, .bool false, .slice p17_3 0 p17_c3, .slice p17_4 1 p17_c4])] ∧ St w w1 [(g12, [.bool false, .slice p17_1 ((words (turnN true x)).length) p17_c1, .slice p17_2 1 p17_c2, .bool false, .slice p17_3 0 p17_c3, .slice p17_4 1 p17_c4]), (g5, [.bool true, .slice a1 ((words x).length) ac1, .slice a2 1 ac2, .bool false, .slice a3 0 ac3, .slice a4 1 ac4]), (g2, [.bool true, .slice a1 ((words x).length) ac1, .slice a2 1 ac2, .bool false, .slice a3 0 ac3, .slice a4 1 ac4])] [(p17_4, [1]), (p17_3, []), (p17_2, [1]), (p17_1, words (turnN true x)), (a4, [1]), (a3, []), (a2, [1]), (a1, words x)] []) _ ⟨0, rfl, (Nat.zero_le _), hA.keep _ ⟨rfl, rfl, rfl, rfl, rfl, rfl, rfl, rfl, rfl, rfl, rfl, rfl, rfl, rfl, rfl, rfl, rfl, rfl, rfl, trivial⟩, hS⟩ ?_
    clear hS hA
    rintro m a w25 ⟨k, rfl, hinv27, hA, hS⟩ K26 hK26
    have hp9 := popU_le (turnN true x) k
    refine wp_seq_k (fun K28 hK28 => ?_)
    refine wp_seq_k (fun K29 hK29 => ?_)
    refine wp_region_lit ?_
    refine seq_do hA rfl rfl rfl (does_move rfl) ?_
    intro a hA
    refine seq_do (v := .pointer (some ⟨g12, 0, none⟩)) hA rfl rfl rfl (does_field fld_26_0 rfl rfl) ?_
    intro a hA
    refine seq_do (v := .pointer (some ⟨g12, 1, none⟩)) hA rfl rfl rfl (does_field fld_24_1 rfl rfl) ?_
    intro a hA
    refine seq_do hA rfl rfl rfl (does_load1 hS is1_22 rfl 0 rfl rfl) ?_
    intro a hA
    refine seq_do (v := .int .i64 ((((words (turnN true x)).length : Nat) : Int))) hA rfl rfl rfl (does_len Try.underlying22 rfl) ?_
    intro a hA
    refine seq_do (v := .int .i64 (((32 * (words (turnN true x)).length : Nat) : Int))) hA rfl rfl rfl (does_bin rfl rfl (bin_mul32 (by omega))) ?_
    intro a hA
    rcases Bool.eq_false_or_eq_true (decide (((k : Nat) : Int) < ((32 * (words (turnN true x)).length : Nat) : Int))) with hb30 | hb30
    · have hb30' := of_decide_eq_true hb30
      refine seq_do (v := .bool true) hA rfl rfl rfl (does_bin rfl rfl (fun w => (bin_lss w).trans (by rw [hb30]))) ?_
      intro a hA
      refine seq_end ?_
      refine hK29 _ _ ?_
      refine wp_cond_true (hA.ev rfl) ?_
      refine wp_skip ?_
      refine hK28 _ _ ?_
      refine wp_seq_k (fun K31 hK31 => ?_)
      refine wp_block ?_
      refine wp_region_lit ?_
      refine seq_do hA rfl rfl rfl (does_move rfl) ?_
      intro a hA
      refine seq_do (v := .pointer (some ⟨g12, 0, none⟩)) hA rfl rfl rfl (does_field fld_26_0 rfl rfl) ?_
      intro a hA
      refine seq_do (v := .pointer (some ⟨g12, 1, none⟩)) hA rfl rfl rfl (does_field fld_24_1 rfl rfl) ?_
      intro a hA
      refine seq_do hA rfl rfl rfl (does_load1 hS is1_22 rfl 0 rfl rfl) ?_
      intro a hA
      refine seq_do hA rfl rfl rfl (does_move rfl) ?_
      intro a hA
      refine seq_call hA rfl rfl rfl (enters_func  rfl rfl (fun w => by kernel_rfl)) (bit_any (x := turnN true x) _ k (hS.rd 3 rfl) (by omega)) ?_
      rintro _ w33 ⟨rfl, hb32⟩
      replace hb32 := below_eq hb32
      replace hS := hS.call hb32
      refine ⟨_, rfl, ?_⟩
      intro a hA
      refine seq_do (v := .int .i64 ((((turnN true x) / 2 ^ k % 2 : Nat) : Int))) hA rfl rfl rfl (does_convert rfl (conv_u32 Try.underlying41 Try.underlying3 (by omega))) ?_
      intro a hA
      refine seq_do (v := .int .i64 (((popU (turnN true x) (k + 1) : Nat) : Int))) hA rfl rfl rfl (does_bin rfl rfl (bin_addN rfl (Nat.le_trans (popU_le _ _) (by omega)))) ?_
      intro a hA
      refine seq_do hA rfl rfl rfl (does_assign rfl) ?_
      intro a hA
      refine seq_end ?_
      refine hK31 _ _ ?_
      refine wp_region_lit ?_
      refine seq_do hA rfl rfl rfl (does_move rfl) ?_
      intro a hA
      refine seq_do (v := .int .i64 (((k + 1 : Nat) : Int))) hA rfl rfl rfl (does_bin rfl rfl (fun w => (bin_add (i64In (by omega) (by omega)) w).trans (by rw [show (((k : Nat) : Int) + 1 : Int) = ((k + 1 : Nat) : Int) from by omega]))) ?_
      intro a hA
      refine seq_do hA rfl rfl rfl (does_assign rfl) ?_
      intro a hA
      refine seq_end ?_
      refine hK26 _ _ _ (by omega) ⟨k + 1, rfl, (by omega), hA.keep _ ⟨rfl, rfl, rfl, rfl, rfl, rfl, rfl, rfl, rfl, rfl, rfl, rfl, rfl, rfl, rfl, rfl, rfl, rfl, rfl, trivial⟩, ((hS.pickR [(p17_4, [1]), (p17_3, []), (p17_2, [1]), (p17_1, words (turnN true x)), (a4, [1]), (a3, []), (a2, [1]), (a1, words x)] ⟨⟨0, rfl⟩, ⟨⟨1, rfl⟩, ⟨⟨2, rfl⟩, ⟨⟨3, rfl⟩, ⟨⟨4, rfl⟩, ⟨⟨5, rfl⟩, ⟨⟨6, rfl⟩, ⟨⟨7, rfl⟩, trivial⟩⟩⟩⟩⟩⟩⟩⟩).subL _ (.cons_cons _ (.cons_cons _ (.cons_cons _ .slnil))))⟩
    · have hb30' := of_decide_eq_false hb30
      refine seq_do (v := .bool false) hA rfl rfl rfl (does_bin rfl rfl (fun w => (bin_lss w).trans (by rw [hb30]))) ?_
      intro a hA
      refine seq_end ?_
      refine hK29 _ _ ?_
      refine wp_cond_false (hA.ev rfl) ?_
      refine wp_exit ?_
      refine hK23 _ _ ?_
      refine wp_seq_k (fun K34 hK34 => ?_)
      refine wp_seq_k (fun K35 hK35 => ?_)
      refine wp_region_lit ?_
      refine seq_do (v := .pointer (some ⟨g2, 0, none⟩)) hA rfl rfl rfl (does_field fld_26_0 rfl rfl) ?_
      intro a hA
      refine seq_do (v := .pointer (some ⟨g2, 0, none⟩)) hA rfl rfl rfl (does_field fld_24_0 rfl rfl) ?_
      intro a hA
      refine seq_do hA rfl rfl rfl (does_load1 hS is1_4 rfl 2 rfl rfl) ?_
      intro a hA
      refine seq_end ?_
      refine hK35 _ _ ?_
      refine wp_cond_true (hA.ev rfl) ?_
      refine wp_seq_k (fun K36 hK36 => ?_)
      refine wp_region_lit ?_
      refine seq_do hA rfl rfl rfl (does_move rfl) ?_
      intro a hA
      refine seq_do (v := .int .i64 (-(((popU (turnN true x) k : Nat) : Int)))) hA rfl rfl rfl (does_un rfl (un_neg (i64In (by omega) (by omega)))) ?_
      intro a hA
      refine seq_do (v := .int .i64 (-(((popU (turnN true x) k : Nat) : Int)) - 1)) hA rfl rfl rfl (does_bin rfl rfl (bin_sub (i64In (by omega) (by omega)))) ?_
      intro a hA
      refine seq_do hA rfl rfl rfl (does_assign rfl) ?_
      intro a hA
      refine seq_do hA rfl rfl rfl (does_assign rfl) ?_
      intro a hA
      refine seq_end ?_
      refine hK36 _ _ ?_
      refine wp_ret ?_
      refine hret _ _ ?_
      refine ends (v := .tuple #[.int .i64 (-(((popU (turnN true x) k : Nat) : Int)) - 1), .int .i64 0]) hA rfl (.cons (res_tmp rfl) (.cons (res_tmp rfl) .nil)) rfl ?_
      have hk9 : k = 32 * (words (turnN true x)).length := by omega
      subst hk9
      rw [countQ_neg hw]
      exact ⟨rfl, hS.bel⟩
end Go.Proofs.Yteghiinbafbokaa
namespace Go.Proofs.Yteghiinbafbokaa
open Go.RowKit
set_option linter.unusedVariables false
set_option linter.unusedSimpArgs false

/-- The word at i of a row without end. -/
def rwd (b : Bool) (y i : Nat) : Nat := (y / pw i % 4294967296) ^^^ (b.toNat * 4294967295)
theorem ends_lt (b : Bool) : b.toNat * 4294967295 < 4294967296 := by cases b <;> decide
theorem rwd_lt (b : Bool) (y i : Nat) : rwd b y i < 4294967296 := Nat.xor_lt_two_pow (n := 32) (Nat.mod_lt _ (by decide)) (ends_lt b)
theorem rwd_end {b : Bool} {y i : Nat} (h : (words y).length ≤ i) : rwd b y i = b.toNat * 4294967295 := by
  unfold rwd
  rw [div_words_length y i h, Nat.zero_mod, Nat.zero_xor]
/-- An operation on words, and what it makes of signs. -/
structure BOp (fop : Nat → Nat → Nat) (fb : Bool → Bool → Bool) : Prop where
  lt : ∀ x y, x < 4294967296 → y < 4294967296 → fop x y < 4294967296
  ends : ∀ b c, fop (b.toNat * 4294967295) (c.toNat * 4294967295) = (fb b c).toNat * 4294967295
def outW (fop : Nat → Nat → Nat) (fb : Bool → Bool → Bool) (b1 : Bool) (y1 : Nat) (b2 : Bool) (y2 i : Nat) : Nat := fop (rwd b1 y1 i) (rwd b2 y2 i) ^^^ ((fb b1 b2).toNat * 4294967295)
section
variable {fop : Nat → Nat → Nat} {fb : Bool → Bool → Bool} {b1 b2 : Bool} {y1 y2 : Nat}
theorem outW_lt (h : BOp fop fb) (i : Nat) : outW fop fb b1 y1 b2 y2 i < 4294967296 := Nat.xor_lt_two_pow (n := 32) (h.lt _ _ (rwd_lt _ _ _) (rwd_lt _ _ _)) (ends_lt _)
theorem outW_end (h : BOp fop fb) {i : Nat} (h1 : (words y1).length ≤ i) (h2 : (words y2).length ≤ i) : outW fop fb b1 y1 b2 y2 i = 0 := by
  unfold outW
  rw [rwd_end h1, rwd_end h2, h.ends, Nat.xor_self]
def outL (fop : Nat → Nat → Nat) (fb : Bool → Bool → Bool) (b1 : Bool) (y1 : Nat) (b2 : Bool) (y2 N : Nat) : List Nat := (List.range N).map (outW fop fb b1 y1 b2 y2)
theorem outL_len (N : Nat) : (outL fop fb b1 y1 b2 y2 N).length = N := by simp [outL]
theorem outL_get {N i : Nat} (h : i < N) : (outL fop fb b1 y1 b2 y2 N).getD i 0 = outW fop fb b1 y1 b2 y2 i := by simp [outL, h]
theorem outL_dig (h : BOp fop fb) (N : Nat) : Dig (outL fop fb b1 y1 b2 y2 N) := by
  intro x hx
  obtain ⟨i, _, rfl⟩ := List.mem_map.1 hx
  exact outW_lt h i
theorem outL_succ (N : Nat) : outL fop fb b1 y1 b2 y2 (N + 1) = outL fop fb b1 y1 b2 y2 N ++ [outW fop fb b1 y1 b2 y2 N] := by simp [outL, List.range_succ]
theorem outL_val (h : BOp fop fb) {N : Nat} (h1 : (words y1).length ≤ N) (h2 : (words y2).length ≤ N) : ∀ k, val (outL fop fb b1 y1 b2 y2 (N + k)) = val (outL fop fb b1 y1 b2 y2 N)
  | 0 => rfl
  | k + 1 => by
    rw [← Nat.add_assoc, outL_succ, val_snoc, outW_end h (by omega) (by omega), Nat.mul_zero, Nat.add_zero]
    exact outL_val h h1 h2 k
end
/-- The size of what two rows are put together to, without the last one of a number below 0. -/
def putY (fop : Nat → Nat → Nat) (fb : Bool → Bool → Bool) (b1 : Bool) (y1 : Nat) (b2 : Bool) (y2 : Nat) : Nat := val (outL fop fb b1 y1 b2 y2 (max (words y1).length (words y2).length))
theorem and_op : BOp (fun x y => x &&& y) (fun b c => b && c) := ⟨fun x y hx _ => Nat.lt_of_le_of_lt Nat.and_le_left hx, by intro b c; cases b <;> cases c <;> decide⟩
theorem or_op : BOp (fun x y => x ||| y) (fun b c => b || c) := ⟨fun x y hx hy => Nat.or_lt_two_pow (n := 32) hx hy, by intro b c; cases b <;> cases c <;> decide⟩
theorem xor_op : BOp (fun x y => x ^^^ y) (fun b c => b != c) := ⟨fun x y hx hy => Nat.xor_lt_two_pow (n := 32) hx hy, by intro b c; cases b <;> cases c <;> decide⟩
theorem btrimN_any {B : Nat} {w : World} {ao : Option Addr} {cap n : Nat} {l : List Nat} (h : Own B w ao cap l) (hn : l.length = n) (hl : n ≤ 1000000) :
    Calls Try.prog 70 #[.slice ao n cap] w fun e w' => e = .returned (.slice ao (words (val l)).length cap) ∧ Own B w ao cap (words (val l)) ∧ w' = w := by
  subst hn
  exact btrim_any h hl
section
variable {P : Program} {t : TypeId} {a b : Operand} {x y : Nat}
theorem bin_and (hx : x < 4294967296) (hy : y < 4294967296) : ∀ w, (do eqGuard .and t a b (.int .u32 ((x : Nat) : Int)) (.int .u32 ((y : Nat) : Int)); binOp .and t (.int .u32 ((x : Nat) : Int)) (.int .u32 ((y : Nat) : Int)) : Sem Value).run P w = .ok (.int .u32 ((x &&& y : Nat) : Int)) w := fun w => by
  simp [go_sem, and_u32 x y hx hy]
theorem bin_or (hx : x < 4294967296) (hy : y < 4294967296) : ∀ w, (do eqGuard .or t a b (.int .u32 ((x : Nat) : Int)) (.int .u32 ((y : Nat) : Int)); binOp .or t (.int .u32 ((x : Nat) : Int)) (.int .u32 ((y : Nat) : Int)) : Sem Value).run P w = .ok (.int .u32 ((x ||| y : Nat) : Int)) w := fun w => by
  simp [go_sem, or_u32 x y hx hy]
theorem bin_xor {z : Nat} (hx : x < 4294967296) (hy : y < 4294967296) (hz : x ^^^ y = z) : ∀ w, (do eqGuard .xor t a b (.int .u32 ((x : Nat) : Int)) (.int .u32 ((y : Nat) : Int)); binOp .xor t (.int .u32 ((x : Nat) : Int)) (.int .u32 ((y : Nat) : Int)) : Sem Value).run P w = .ok (.int .u32 ((z : Nat) : Int)) w := fun w => by
  subst hz
  simp [go_sem, xor_u32 x y hx hy]
theorem run_max {ts : Array TypeId} {ty : TypeId} {m n : Nat} : ∀ w cs, (builtin .max ts ty cs #[.int .i64 ((m : Nat) : Int), .int .i64 ((n : Nat) : Int)]).run P w = .ok (.value (.int .i64 ((max m n : Nat) : Int))) w := fun w cs => by
  rw [BigFrame.builtin_max]
  have e : (if ((n : Nat) : Int) > ((m : Nat) : Int) then ((n : Nat) : Int) else ((m : Nat) : Int)) = ((max m n : Nat) : Int) := by
    by_cases h : m < n
    · rw [if_pos (by omega), Nat.max_eq_right (by omega)]
    · rw [if_neg (by omega), Nat.max_eq_left (by omega)]
  simp only [Builtin.max_, List.foldlM_cons, List.foldlM_nil, Builtin.max2, Sem.run_bind, Sem.run_pure, Result.andThen_ok, e]
end
end Go.Proofs.Yteghiinbafbokaa
namespace Go.Proofs.Yteghiinbafbokaa
open Go.RowKit
set_option linter.unusedVariables false
set_option linter.unusedSimpArgs false
set_option maxRecDepth 100000

theorem rwordAt_any {w : World} {b : Bool} {ro : Option Addr} {rc y i : Nat} (hr : Rd w ro (words y)) (hy : (words y).length ≤ 100000) : Calls Try.prog 69 #[.agg #[.bool b, .slice ro (words y).length rc], .int .i64 ((i : Nat) : Int)] w fun e w' => e = .returned (.int .u32 ((rwd b y i : Nat) : Int)) ∧ Below w.heap.size w w' := by
  have hS : St w w [] [(ro, words y)] [] := (St.start w).addR hr
  refine walk_of (l := [(0, .agg #[.bool b, .slice ro ((words y).length) rc]), (1, .int .i64 (((i : Nat) : Int)))]) Try.func69 rfl Try.ntmps69 rfl rfl ?_
  intro Q hret hnorm hP a hA
  refine wp_seq_k (fun K1 hK1 => ?_)
  refine wp_region_lit ?_
  refine seq_new (vs := [.bool b, .slice ro ((words y).length) rc]) (t := 49) hA hS rfl rfl rfl (fun g => .pointer (some ⟨g, 0, none⟩)) (does_box rfl rfl) rfl ?_
  intro g2 w3 hS a hA
  refine seq_do hA rfl rfl rfl (does_assign rfl) ?_
  intro a hA
  refine seq_end ?_
  refine hK1 _ _ ?_
  refine wp_seq_k (fun K4 hK4 => ?_)
  refine wp_seq_k (fun K5 hK5 => ?_)
  refine wp_region_lit ?_
  refine seq_do hA rfl rfl rfl (does_move rfl) ?_
  intro a hA
  refine seq_do (v := .pointer (some ⟨g2, 1, none⟩)) hA rfl rfl rfl (does_field fld_49_1 rfl rfl) ?_
  intro a hA
  refine seq_do hA rfl rfl rfl (does_load1 hS is1_22 rfl 0 rfl rfl) ?_
  intro a hA
  refine seq_do (v := .int .i64 ((((words y).length : Nat) : Int))) hA rfl rfl rfl (does_len Try.underlying22 rfl) ?_
  intro a hA
  rcases Bool.eq_false_or_eq_true (decide ((((words y).length : Nat) : Int) ≤ ((i : Nat) : Int))) with hb6 | hb6
  · have hb6' := of_decide_eq_true hb6
    refine seq_do (v := .bool true) hA rfl rfl rfl (does_bin rfl rfl (fun w => (bin_geq w).trans (by rw [hb6]))) ?_
    intro a hA
    refine seq_end ?_
    refine hK5 _ _ ?_
    refine wp_cond_true (hA.ev rfl) ?_
    refine wp_seq_k (fun K7 hK7 => ?_)
    refine wp_region_lit ?_
    refine seq_do (v := .agg #[.bool b, .slice ro ((words y).length) rc]) hA rfl rfl rfl (does_loadS hS isS_49 rfl 0 rfl (cs := [.bool b, .slice ro ((words y).length) rc]) rfl rfl) ?_
    intro a hA
    refine seq_call hA rfl rfl rfl (enters_func  rfl rfl (fun w => by kernel_rfl)) (endless_any) ?_
    rintro _ w9 ⟨rfl, hb8⟩
    replace hS := hS.call hb8
    refine ⟨_, rfl, ?_⟩
    intro a hA
    refine seq_do hA rfl rfl rfl (does_assign rfl) ?_
    intro a hA
    refine seq_end ?_
    refine hK7 _ _ ?_
    refine wp_ret ?_
    refine hret _ _ ?_
    refine ends (v := .int .u32 (((b.toNat * 4294967295 : Nat) : Int))) hA rfl (.cons (res_tmp rfl) .nil) rfl ?_
    rw [rwd_end (by omega)]
    exact ⟨rfl, hS.bel⟩
  · have hb6' := of_decide_eq_false hb6
    refine seq_do (v := .bool false) hA rfl rfl rfl (does_bin rfl rfl (fun w => (bin_geq w).trans (by rw [hb6]))) ?_
    intro a hA
    refine seq_end ?_
    refine hK5 _ _ ?_
    refine wp_cond_false (hA.ev rfl) ?_
    refine wp_skip ?_
    refine hK4 _ _ ?_
    refine wp_seq_k (fun K10 hK10 => ?_)
    refine wp_draw (S := fun w1 => St w w1 [(g2, [.bool b, .slice ro ((words y).length) rc])] [(ro, words y)] []) (by kernel_rfl) ?_
    replace hS := hS.drew
    refine any_take (v := .pointer (some ⟨g2, 1, none⟩)) hA 0 rfl rfl rfl rfl (by kernel_rfl) (by kernel_rfl) (by kernel_rfl) (fun c a w h => hP c a _ _ w h) (hS.part (.cons_cons _ .slnil) ⟨⟨0, rfl⟩, trivial⟩ .slnil) (fun w1 hS => does_field fld_49_1 rfl rfl) ?_
    intro a hA
    refine any_take hA 1 rfl rfl rfl rfl (by kernel_rfl) (by kernel_rfl) (by kernel_rfl) (fun c a w h => hP c a _ _ w h) (hS.part (.cons_cons _ .slnil) ⟨⟨0, rfl⟩, trivial⟩ .slnil) (fun w1 hS => does_load1 hS is1_22 rfl 0 rfl rfl) ?_
    intro a hA
    refine any_take hA 2 rfl rfl rfl rfl (by kernel_rfl) (by kernel_rfl) (by kernel_rfl) (fun c a w h => hP c a _ _ w h) (hS.part (.cons_cons _ .slnil) ⟨⟨0, rfl⟩, trivial⟩ .slnil) (fun w1 hS => does_move rfl) ?_
    intro a hA
    have hi14 : i < (words y).length := by first | omega | (simp only [List.length_set]; omega)
    obtain ⟨b11, f12, hso13⟩ := Rd.addr (hS.rd 0 rfl) hi14
    refine any_take (v := .pointer (some ⟨b11, f12 + i, none⟩)) hA 3 rfl rfl rfl rfl (by kernel_rfl) (by kernel_rfl) (by kernel_rfl) (fun c a w h => hP c a _ _ w h) (hS.part (.cons_cons _ .slnil) ⟨⟨0, rfl⟩, trivial⟩ .slnil) (fun w1 hS => does_indexRow (k := i) Try.underlying22 (by kernel_rfl) rfl rfl (by omega) hso13 hi14) ?_
    intro a hA
    refine any_take (v := .int .u32 ((((words y).getD i 0 : Nat) : Int))) hA 4 rfl rfl rfl rfl (by kernel_rfl) (by kernel_rfl) (by kernel_rfl) (fun c a w h => hP c a _ _ w h) (hS.part (.cons_cons _ .slnil) ⟨⟨0, rfl⟩, trivial⟩ .slnil) (fun w1 hS => does_loadRow (hS.rd 0 rfl) hso13 hi14 is1_41 rfl) ?_
    intro a hA
    refine any_take (v := .agg #[.bool b, .slice ro ((words y).length) rc]) hA 5 rfl rfl rfl rfl (by kernel_rfl) (by kernel_rfl) (by kernel_rfl) (fun c a w h => hP c a _ _ w h) (hS.part (.cons_cons _ .slnil) ⟨⟨0, rfl⟩, trivial⟩ .slnil) (fun w1 hS => does_loadS hS isS_49 rfl 0 rfl (cs := [.bool b, .slice ro ((words y).length) rc]) rfl rfl) ?_
    intro a hA
    refine any_one (by kernel_rfl) (op_call hA 6 rfl rfl rfl rfl (enters_func  rfl rfl (fun w => by kernel_rfl)) (endless_any) ?_)
    rintro _ w16 ⟨rfl, hb15⟩
    replace hS := hS.call hb15
    refine ⟨_, rfl, (hS.part (.cons_cons _ .slnil) ⟨⟨0, rfl⟩, trivial⟩ .slnil), ?_⟩
    intro a hA
    refine any_take (v := .int .u32 (((rwd b y i : Nat) : Int))) hA 7 rfl rfl rfl rfl (by kernel_rfl) (by kernel_rfl) (by kernel_rfl) (fun c a w h => hP c a _ _ w h) (hS.part (.cons_cons _ .slnil) ⟨⟨0, rfl⟩, trivial⟩ .slnil) (fun w1 hS => does_bin rfl rfl (bin_xor (by rw [words_getD]; exact Nat.mod_lt _ (by decide)) (ends_lt b) (by rw [words_getD]; rfl))) ?_
    intro a hA
    refine any_take hA 8 rfl rfl rfl rfl (by kernel_rfl) (by kernel_rfl) (by kernel_rfl) (fun c a w h => hP c a _ _ w h) (hS.part (.cons_cons _ .slnil) ⟨⟨0, rfl⟩, trivial⟩ .slnil) (fun w1 hS => does_assign rfl) ?_
    intro a hA
    refine any_end (by kernel_rfl) ?_
    refine hK10 _ _ ?_
    refine wp_ret ?_
    refine hret _ _ ?_
    refine ends (v := .int .u32 (((rwd b y i : Nat) : Int))) hA rfl (.cons (res_tmp rfl) .nil) rfl ?_
    exact ⟨rfl, hS.bel⟩
theorem andF_any (x y : Nat) (w : World) (hx : x < 4294967296) (hy : y < 4294967296) : Calls Try.prog 23 #[.int .u32 ((x : Nat) : Int), .int .u32 ((y : Nat) : Int)] w fun e w' => e = .returned (.int .u32 ((x &&& y : Nat) : Int)) ∧ Below w.heap.size w w' := by
  have hS : St w w [] [] [] := St.start w
  refine walk_of (l := [(0, .int .u32 (((x : Nat) : Int))), (1, .int .u32 (((y : Nat) : Int)))]) Try.func23 rfl Try.ntmps23 rfl rfl ?_
  intro Q hret hnorm hP a hA
  refine wp_seq_k (fun K1 hK1 => ?_)
  refine wp_region_lit ?_
  refine seq_do hA rfl rfl rfl (does_assign rfl) ?_
  intro a hA
  refine seq_end ?_
  refine hK1 _ _ ?_
  refine wp_seq_k (fun K2 hK2 => ?_)
  refine wp_region_lit ?_
  refine seq_do hA rfl rfl rfl (does_move rfl) ?_
  intro a hA
  refine seq_do hA rfl rfl rfl (does_move rfl) ?_
  intro a hA
  refine seq_do (v := .int .u32 (((x &&& y : Nat) : Int))) hA rfl rfl rfl (does_bin rfl rfl (bin_and hx hy)) ?_
  intro a hA
  refine seq_do hA rfl rfl rfl (does_assign rfl) ?_
  intro a hA
  refine seq_end ?_
  refine hK2 _ _ ?_
  refine wp_ret ?_
  refine hret _ _ ?_
  refine ends (v := .int .u32 (((x &&& y : Nat) : Int))) hA rfl (.cons (res_tmp rfl) .nil) rfl ?_
  exact ⟨rfl, hS.bel⟩
theorem orF_any (x y : Nat) (w : World) (hx : x < 4294967296) (hy : y < 4294967296) : Calls Try.prog 27 #[.int .u32 ((x : Nat) : Int), .int .u32 ((y : Nat) : Int)] w fun e w' => e = .returned (.int .u32 ((x ||| y : Nat) : Int)) ∧ Below w.heap.size w w' := by
  have hS : St w w [] [] [] := St.start w
  refine walk_of (l := [(0, .int .u32 (((x : Nat) : Int))), (1, .int .u32 (((y : Nat) : Int)))]) Try.func27 rfl Try.ntmps27 rfl rfl ?_
  intro Q hret hnorm hP a hA
  refine wp_seq_k (fun K1 hK1 => ?_)
  refine wp_region_lit ?_
  refine seq_do hA rfl rfl rfl (does_assign rfl) ?_
  intro a hA
  refine seq_end ?_
  refine hK1 _ _ ?_
  refine wp_seq_k (fun K2 hK2 => ?_)
  refine wp_region_lit ?_
  refine seq_do hA rfl rfl rfl (does_move rfl) ?_
  intro a hA
  refine seq_do hA rfl rfl rfl (does_move rfl) ?_
  intro a hA
  refine seq_do (v := .int .u32 (((x ||| y : Nat) : Int))) hA rfl rfl rfl (does_bin rfl rfl (bin_or hx hy)) ?_
  intro a hA
  refine seq_do hA rfl rfl rfl (does_assign rfl) ?_
  intro a hA
  refine seq_end ?_
  refine hK2 _ _ ?_
  refine wp_ret ?_
  refine hret _ _ ?_
  refine ends (v := .int .u32 (((x ||| y : Nat) : Int))) hA rfl (.cons (res_tmp rfl) .nil) rfl ?_
  exact ⟨rfl, hS.bel⟩
theorem xorF_any (x y : Nat) (w : World) (hx : x < 4294967296) (hy : y < 4294967296) : Calls Try.prog 28 #[.int .u32 ((x : Nat) : Int), .int .u32 ((y : Nat) : Int)] w fun e w' => e = .returned (.int .u32 ((x ^^^ y : Nat) : Int)) ∧ Below w.heap.size w w' := by
  have hS : St w w [] [] [] := St.start w
  refine walk_of (l := [(0, .int .u32 (((x : Nat) : Int))), (1, .int .u32 (((y : Nat) : Int)))]) Try.func28 rfl Try.ntmps28 rfl rfl ?_
  intro Q hret hnorm hP a hA
  refine wp_seq_k (fun K1 hK1 => ?_)
  refine wp_region_lit ?_
  refine seq_do hA rfl rfl rfl (does_assign rfl) ?_
  intro a hA
  refine seq_end ?_
  refine hK1 _ _ ?_
  refine wp_seq_k (fun K2 hK2 => ?_)
  refine wp_region_lit ?_
  refine seq_do hA rfl rfl rfl (does_move rfl) ?_
  intro a hA
  refine seq_do hA rfl rfl rfl (does_move rfl) ?_
  intro a hA
  refine seq_do (v := .int .u32 (((x ^^^ y : Nat) : Int))) hA rfl rfl rfl (does_bin rfl rfl (bin_xor hx hy rfl)) ?_
  intro a hA
  refine seq_do hA rfl rfl rfl (does_assign rfl) ?_
  intro a hA
  refine seq_end ?_
  refine hK2 _ _ ?_
  refine wp_ret ?_
  refine hret _ _ ?_
  refine ends (v := .int .u32 (((x ^^^ y : Nat) : Int))) hA rfl (.cons (res_tmp rfl) .nil) rfl ?_
  exact ⟨rfl, hS.bel⟩
/-- A function that is handed in does so. -/
structure Fun2 (F : FuncId) (fop : Nat → Nat → Nat) : Prop where
  inv : ∀ vs w, (invoke (.fn (.func F) #[]) vs).run Try.prog w = .ok (.enter F vs) w
  does : ∀ x y w, x < 4294967296 → y < 4294967296 → Calls Try.prog F #[.int .u32 ((x : Nat) : Int), .int .u32 ((y : Nat) : Int)] w fun e w' => e = .returned (.int .u32 ((fop x y : Nat) : Int)) ∧ Below w.heap.size w w'
theorem andFun : Fun2 23 (fun x y => x &&& y) := ⟨fun vs w => by simp [go_sem, invoke, callFunc, Try.func23, Try.f23], andF_any⟩
theorem orFun : Fun2 27 (fun x y => x ||| y) := ⟨fun vs w => by simp [go_sem, invoke, callFunc, Try.func27, Try.f27], orF_any⟩
theorem xorFun : Fun2 28 (fun x y => x ^^^ y) := ⟨fun vs w => by simp [go_sem, invoke, callFunc, Try.func28, Try.f28], xorF_any⟩
theorem combined_any {w : World} {F : FuncId} {fop : Nat → Nat → Nat} {fb : Bool → Bool → Bool} (hF : Fun2 F fop) (hB : BOp fop fb) {b1 b2 : Bool} {r1 r2 : Option Addr} {rc1 rc2 y1 y2 : Nat} (h1 : Rd w r1 (words y1)) (h2 : Rd w r2 (words y2)) (k1 : (words y1).length ≤ 600) (k2 : (words y2).length ≤ 600) :
    Calls Try.prog 48 #[.agg #[.bool b1, .slice r1 (words y1).length rc1], .func (.func F) #[] #[], .agg #[.bool b2, .slice r2 (words y2).length rc2]] w fun e w' => ∃ o c, e = .returned (.agg #[.bool (fb b1 b2), .slice o (words (putY fop fb b1 y1 b2 y2)).length c]) ∧ Sc w' o c (words (putY fop fb b1 y1 b2 y2)) ∧ Below w.heap.size w w' := by
  have hnb : (((fop (b1.toNat * 4294967295) (b2.toNat * 4294967295) : Nat) : Int) != 0) = fb b1 b2 := by
    rw [hB.ends]
    cases fb b1 b2 <;> decide
  have hS : St w w [] [] [] := St.start w
  refine walk_of (l := [(0, .agg #[.bool b1, .slice r1 ((words y1).length) rc1]), (1, .func (.func F) #[] #[]), (2, .agg #[.bool b2, .slice r2 ((words y2).length) rc2])]) Try.func48 rfl Try.ntmps48 rfl rfl ?_
  intro Q hret hnorm hP a hA
  refine wp_seq_k (fun K1 hK1 => ?_)
  refine wp_region_lit ?_
  refine seq_new (vs := [.bool b1, .slice r1 ((words y1).length) rc1]) (t := 49) hA hS rfl rfl rfl (fun g => .pointer (some ⟨g, 0, none⟩)) (does_box rfl rfl) rfl ?_
  intro g2 w3 hS a hA
  refine seq_new (vs := [.bool b2, .slice r2 ((words y2).length) rc2]) (t := 49) hA hS rfl rfl rfl (fun g => .pointer (some ⟨g, 0, none⟩)) (does_box rfl rfl) rfl ?_
  intro g4 w5 hS a hA
  refine seq_new (vs := [.bool false, .slice none 0 0]) (t := 49) hA hS rfl rfl rfl (fun g => .pointer (some ⟨g, 0, none⟩)) (does_alloc (z := .agg #[.bool false, .slice none 0 0]) (by kernel_rfl) rfl) rfl ?_
  intro g6 w7 hS a hA
  refine seq_end ?_
  refine hK1 _ _ ?_
  refine wp_seq_k (fun K8 hK8 => ?_)
  have hJ19 : ∀ a w1, (∃ (J18g : Nat), Sl a 53 [(0, .agg #[.bool b1, .slice r1 ((words y1).length) rc1]), (1, .func (.func F) #[] #[]), (2, .agg #[.bool b2, .slice r2 ((words y2).length) rc2]), (3, .pointer (some ⟨g2, 0, none⟩)), (5, .pointer (some ⟨g4, 0, none⟩)), (6, .pointer (some ⟨g6, 0, none⟩)), (7, .pointer (some ⟨J18g, 0, none⟩)), (9, .func (.func F) #[] #[]), (10, .agg #[.bool b1, .slice r1 ((words y1).length) rc1]), (11, .int .u32 (((b1.toNat * 4294967295 : Nat) : Int))), (12, .agg #[.bool b2, .slice r2 ((words y2).length) rc2]), (13, .int .u32 (((b2.toNat * 4294967295 : Nat) : Int))), (14, .int .u32 (((fop (b1.toNat * 4294967295) (b2.toNat * 4294967295) : Nat) : Int))), (15, .bool ((fb b1 b2))), (16, .agg #[.bool ((fb b1 b2)), .slice none 0 0])] ∧ St w w1 [(J18g, [.bool ((fb b1 b2)), .slice none 0 0]), (g6, [.bool false, .slice none 0 0]), (g4, [.bool b2, .slice r2 ((words y2).length) rc2]), (g2, [.bool b1, .slice r1 ((words y1).length) rc1])] [] []) → K8 a w1 := by
    clear hA hS
    rintro a w20 ⟨J18g, hA, hS⟩
    refine hK8 _ _ ?_
    refine wp_seq_k (fun K21 hK21 => ?_)
    refine wp_region_lit ?_
    refine seq_do (v := .pointer (some ⟨g2, 1, none⟩)) hA rfl rfl rfl (does_field fld_49_1 rfl rfl) ?_
    intro a hA
    refine seq_do hA rfl rfl rfl (does_load1 hS is1_22 rfl 3 rfl rfl) ?_
    intro a hA
    refine seq_do (v := .int .i64 ((((words y1).length : Nat) : Int))) hA rfl rfl rfl (does_len Try.underlying22 rfl) ?_
    intro a hA
    refine seq_do (v := .pointer (some ⟨g4, 1, none⟩)) hA rfl rfl rfl (does_field fld_49_1 rfl rfl) ?_
    intro a hA
    refine seq_do hA rfl rfl rfl (does_load1 hS is1_22 rfl 2 rfl rfl) ?_
    intro a hA
    refine seq_do (v := .int .i64 ((((words y2).length : Nat) : Int))) hA rfl rfl rfl (does_len Try.underlying22 rfl) ?_
    intro a hA
    refine seq_do (v := .int .i64 (((max (words y1).length (words y2).length : Nat) : Int))) hA rfl rfl rfl (does_builtin rfl run_max) ?_
    intro a hA
    refine seq_make (m := max (words y1).length (words y2).length) hA hS rfl rfl rfl (does_make Try.underlying22 (by kernel_rfl) rfl rfl (by omega)) (by omega) ?_
    intro g22 w23 hS a hA
    refine seq_do (v := .pointer (some ⟨J18g, 1, none⟩)) hA rfl rfl rfl (does_field fld_49_1 rfl rfl) ?_
    intro a hA
    refine seq_store (us := [.bool ((fb b1 b2)), .slice (some ⟨g22, 0, none⟩) (max (words y1).length (words y2).length) (max (words y1).length (words y2).length)]) hA hS rfl rfl (sets_store (cs := [.slice (some ⟨g22, 0, none⟩) (max (words y1).length (words y2).length) (max (words y1).length (words y2).length)]) rfl rfl rfl (by kernel_rfl) hS 0 rfl rfl rfl) 0 rfl rfl rfl rfl ?_
    intro w24 hS
    refine seq_end ?_
    refine hK21 _ _ ?_
    refine wp_seq_k (fun K25 hK25 => ?_)
    refine wp_seq_k (fun K26 hK26 => ?_)
    refine wp_region_lit ?_
    refine seq_do (v := .pointer (some ⟨J18g, 1, none⟩)) hA rfl rfl rfl (does_field fld_49_1 rfl rfl) ?_
    intro a hA
    refine seq_do hA rfl rfl rfl (does_load1 hS is1_22 rfl 0 rfl rfl) ?_
    intro a hA
    refine seq_do (v := .int .i64 (((max (words y1).length (words y2).length : Nat) : Int))) hA rfl rfl rfl (does_len Try.underlying22 rfl) ?_
    intro a hA
    refine seq_do hA rfl rfl rfl (does_move rfl) ?_
    intro a hA
    refine seq_end ?_
    refine hK26 _ _ ?_
    refine wp_block ?_
    refine wp_loop_n (fun m a w1 => ∃ (i : Nat) (l : List Nat), m = max (words y1).length (words y2).length - i ∧ (i ≤ max (words y1).length (words y2).length ∧ l.length = max (words y1).length (words y2).length ∧ ∀ j, j < i → l.getD j 0 = outW fop fb b1 y1 b2 y2 j) ∧ Sl a 53 [(0, .agg #[.bool b1, .slice r1 ((words y1).length) rc1]), (1, .func (.func F) #[] #[]), (2, .agg #[.bool b2, .slice r2 ((words y2).length) rc2]), (3, .pointer (some ⟨g2, 0, none⟩)), (5, .pointer (some ⟨g4, 0, none⟩)), (6, .pointer (some ⟨g6, 0, none⟩)), (7, .pointer (some ⟨J18g, 0, none⟩)), (9, .func (.func F) #[] #[]), (10, .agg #[.bool b1, .slice r1 ((words y1).length) rc1]), (11, .int .u32 (((b1.toNat * 4294967295 : Nat) : Int))), (12, .agg #[.bool b2, .slice r2 ((words y2).length) rc2]), (13, .int .u32 (((b2.toNat * 4294967295 : Nat) : Int))), (14, .int .u32 (((fop (b1.toNat * 4294967295) (b2.toNat * 4294967295) : Nat) : Int))), (15, .bool ((fb b1 b2))), (16, .agg #[.bool ((fb b1 b2)), .slice none 0 0]), (17, .pointer (some ⟨g2, 1, none⟩)), (18, .slice r1 ((words y1).length) rc1), (19, .int .i64 ((((words y1).length : Nat) : Int))), (20, .pointer (some ⟨g4, 1, none⟩)), (21, .slice r2 ((words y2).length) rc2), (22, .int .i64 ((((words y2).length : Nat) : Int))), (23, .int .i64 (((max (words y1).length (words y2).length : Nat) : Int))), (24, .slice (some ⟨g22, 0, none⟩) (max (words y1).length (words y2).length) (max (words y1).length (words y2).length)), (25, .pointer (some ⟨J18g, 1, none⟩)), (26, .pointer (some ⟨J18g, 1, none⟩)), (27, .slice (some ⟨g22, 0, none⟩) (max (words y1).length (words y2).length) (max (words y1).length (words y2).length)), (28, .int .i64 (((max (words y1).length (words y2).length : Nat) : Int))), (29, .int .i64 (((i : Nat) : Int)))] ∧ St w w1 [(J18g, [.bool ((fb b1 b2)), .slice (some ⟨g22, 0, none⟩) (max (words y1).length (words y2).length) (max (words y1).length (words y2).length)]), (g6, [.bool false, .slice none 0 0]), (g4, [.bool b2, .slice r2 ((words y2).length) rc2]), (g2, [.bool b1, .slice r1 ((words y1).length) rc1])] [] [(some ⟨g22, 0, none⟩, max (words y1).length (words y2).length, l)]) _ ⟨0, List.replicate (max (words y1).length (words y2).length) 0, rfl, ⟨Nat.zero_le _, by simp, fun j hj => by omega⟩, hA.keep _ ⟨rfl, rfl, rfl, rfl, rfl, rfl, rfl, rfl, rfl, rfl, rfl, rfl, rfl, rfl, rfl, rfl, rfl, rfl, rfl, rfl, rfl, rfl, rfl, rfl, rfl, rfl, rfl, rfl, trivial⟩, hS⟩ ?_
    clear hS hA
    rintro m a w27 ⟨i, l, rfl, hinv29, hA, hS⟩ K28 hK28
    obtain ⟨hle9, hinv9, hinv8⟩ := hinv29
    refine wp_seq_k (fun K30 hK30 => ?_)
    refine wp_region_lit ?_
    rcases Bool.eq_false_or_eq_true (decide (((i : Nat) : Int) < ((max (words y1).length (words y2).length : Nat) : Int))) with hb31 | hb31
    · have hb31' := of_decide_eq_true hb31
      refine seq_do (v := .bool true) hA rfl rfl rfl (does_bin rfl rfl (fun w => (bin_lss w).trans (by rw [hb31]))) ?_
      intro a hA
      refine seq_end ?_
      refine hK30 _ _ ?_
      refine wp_seq_k (fun K32 hK32 => ?_)
      refine wp_cond_true (hA.ev rfl) ?_
      refine wp_skip ?_
      refine hK32 _ _ ?_
      refine wp_seq_k (fun K33 hK33 => ?_)
      refine wp_block ?_
      refine wp_seq_k (fun K34 hK34 => ?_)
      refine wp_region_lit ?_
      refine seq_do hA rfl rfl rfl (does_move rfl) ?_
      intro a hA
      refine seq_do hA rfl rfl rfl (does_assign rfl) ?_
      intro a hA
      refine seq_end ?_
      refine hK34 _ _ ?_
      refine wp_draw (S := fun w1 => St w w1 [(J18g, [.bool ((fb b1 b2)), .slice (some ⟨g22, 0, none⟩) (max (words y1).length (words y2).length) (max (words y1).length (words y2).length)]), (g6, [.bool false, .slice none 0 0]), (g4, [.bool b2, .slice r2 ((words y2).length) rc2]), (g2, [.bool b1, .slice r1 ((words y1).length) rc1])] [] []) (by kernel_rfl) ?_
      replace hS := hS.drew
      refine any_take (v := .pointer (some ⟨J18g, 1, none⟩)) hA 0 rfl rfl rfl rfl (by kernel_rfl) (by kernel_rfl) (by kernel_rfl) (fun c a w h => hP c a _ _ w h) (hS.part (.cons_cons _ (.cons_cons _ (.cons_cons _ (.cons_cons _ .slnil)))) trivial (.cons _ .slnil)) (fun w1 hS => does_field fld_49_1 rfl rfl) ?_
      intro a hA
      refine any_take hA 1 rfl rfl rfl rfl (by kernel_rfl) (by kernel_rfl) (by kernel_rfl) (fun c a w h => hP c a _ _ w h) (hS.part (.cons_cons _ (.cons_cons _ (.cons_cons _ (.cons_cons _ .slnil)))) trivial (.cons _ .slnil)) (fun w1 hS => does_load1 hS is1_22 rfl 0 rfl rfl) ?_
      intro a hA
      refine any_take hA 2 rfl rfl rfl rfl (by kernel_rfl) (by kernel_rfl) (by kernel_rfl) (fun c a w h => hP c a _ _ w h) (hS.part (.cons_cons _ (.cons_cons _ (.cons_cons _ (.cons_cons _ .slnil)))) trivial (.cons _ .slnil)) (fun w1 hS => does_move rfl) ?_
      intro a hA
      refine any_take hA 3 rfl rfl rfl rfl (by kernel_rfl) (by kernel_rfl) (by kernel_rfl) (fun c a w h => hP c a _ _ w h) (hS.part (.cons_cons _ (.cons_cons _ (.cons_cons _ (.cons_cons _ .slnil)))) trivial (.cons _ .slnil)) (fun w1 hS => does_move rfl) ?_
      intro a hA
      refine any_take (v := .agg #[.bool b1, .slice r1 ((words y1).length) rc1]) hA 4 rfl rfl rfl rfl (by kernel_rfl) (by kernel_rfl) (by kernel_rfl) (fun c a w h => hP c a _ _ w h) (hS.part (.cons_cons _ (.cons_cons _ (.cons_cons _ (.cons_cons _ .slnil)))) trivial (.cons _ .slnil)) (fun w1 hS => does_loadS hS isS_49 rfl 3 rfl (cs := [.bool b1, .slice r1 ((words y1).length) rc1]) rfl rfl) ?_
      intro a hA
      refine any_take hA 5 rfl rfl rfl rfl (by kernel_rfl) (by kernel_rfl) (by kernel_rfl) (fun c a w h => hP c a _ _ w h) (hS.part (.cons_cons _ (.cons_cons _ (.cons_cons _ (.cons_cons _ .slnil)))) trivial (.cons _ .slnil)) (fun w1 hS => does_move rfl) ?_
      intro a hA
      refine any_take (v := .agg #[.bool b2, .slice r2 ((words y2).length) rc2]) hA 7 rfl rfl rfl rfl (by kernel_rfl) (by kernel_rfl) (by kernel_rfl) (fun c a w h => hP c a _ _ w h) (hS.part (.cons_cons _ (.cons_cons _ (.cons_cons _ (.cons_cons _ .slnil)))) trivial (.cons _ .slnil)) (fun w1 hS => does_loadS hS isS_49 rfl 2 rfl (cs := [.bool b2, .slice r2 ((words y2).length) rc2]) rfl rfl) ?_
      intro a hA
      refine any_take hA 8 rfl rfl rfl rfl (by kernel_rfl) (by kernel_rfl) (by kernel_rfl) (fun c a w h => hP c a _ _ w h) (hS.part (.cons_cons _ (.cons_cons _ (.cons_cons _ (.cons_cons _ .slnil)))) trivial (.cons _ .slnil)) (fun w1 hS => does_move rfl) ?_
      intro a hA
      refine any_take (v := .agg #[.bool ((fb b1 b2)), .slice (some ⟨g22, 0, none⟩) (max (words y1).length (words y2).length) (max (words y1).length (words y2).length)]) hA 11 rfl rfl rfl rfl (by kernel_rfl) (by kernel_rfl) (by kernel_rfl) (fun c a w h => hP c a _ _ w h) (hS.part (.cons_cons _ (.cons_cons _ (.cons_cons _ (.cons_cons _ .slnil)))) trivial (.cons _ .slnil)) (fun w1 hS => does_loadS hS isS_49 rfl 0 rfl (cs := [.bool ((fb b1 b2)), .slice (some ⟨g22, 0, none⟩) (max (words y1).length (words y2).length) (max (words y1).length (words y2).length)]) rfl rfl) ?_
      intro a hA
      refine any_one (by kernel_rfl) (op_call hA 6 rfl rfl rfl rfl (enters_func  rfl rfl (fun w => by kernel_rfl)) (rwordAt_any (h1.below hS.bel) (by omega)) ?_)
      rintro _ w36 ⟨rfl, hb35⟩
      have hS0 := hS
      replace hS := hS.call hb35
      refine ⟨_, rfl, (hS.part (.cons_cons _ (.cons_cons _ (.cons_cons _ (.cons_cons _ .slnil)))) trivial (.cons _ .slnil)), ?_⟩
      intro a hA
      refine any_one (by kernel_rfl) (op_call hA 9 rfl rfl rfl rfl (enters_func  rfl rfl (fun w => by kernel_rfl)) (rwordAt_any (h2.below hS.bel) (by omega)) ?_)
      rintro _ w38 ⟨rfl, hb37⟩
      have hS0 := hS
      replace hS := hS.call hb37
      refine ⟨_, rfl, (hS.part (.cons_cons _ (.cons_cons _ (.cons_cons _ (.cons_cons _ .slnil)))) trivial (.cons _ .slnil)), ?_⟩
      intro a hA
      refine any_one (by kernel_rfl) (op_call hA 10 rfl rfl rfl rfl (enters_func  rfl rfl (fun w => hF.inv _ w)) (hF.does _ _ _ (rwd_lt _ _ _) (rwd_lt _ _ _)) ?_)
      rintro _ w40 ⟨rfl, hb39⟩
      have hS0 := hS
      replace hS := hS.call hb39
      refine ⟨_, rfl, (hS.part (.cons_cons _ (.cons_cons _ (.cons_cons _ (.cons_cons _ .slnil)))) trivial (.cons _ .slnil)), ?_⟩
      intro a hA
      refine any_one (by kernel_rfl) (op_call hA 12 rfl rfl rfl rfl (enters_func  rfl rfl (fun w => by kernel_rfl)) (endless_any) ?_)
      rintro _ w42 ⟨rfl, hb41⟩
      have hS0 := hS
      replace hS := hS.call hb41
      refine ⟨_, rfl, (hS.part (.cons_cons _ (.cons_cons _ (.cons_cons _ (.cons_cons _ .slnil)))) trivial (.cons _ .slnil)), ?_⟩
      intro a hA
      refine any_take (v := .int .u32 (((outW fop fb b1 y1 b2 y2 i : Nat) : Int))) hA 13 rfl rfl rfl rfl (by kernel_rfl) (by kernel_rfl) (by kernel_rfl) (fun c a w h => hP c a _ _ w h) (hS.part (.cons_cons _ (.cons_cons _ (.cons_cons _ (.cons_cons _ .slnil)))) trivial (.cons _ .slnil)) (fun w1 hS => does_bin rfl rfl (bin_xor (hB.lt _ _ (rwd_lt _ _ _) (rwd_lt _ _ _)) (ends_lt _) rfl)) ?_
      intro a hA
      have hi46 : i < l.length := by first | omega | (simp only [List.length_set]; omega)
      refine any_take (v := .pointer (some ⟨g22, 0 + i, none⟩)) hA 14 rfl rfl rfl rfl (by kernel_rfl) (by kernel_rfl) (by kernel_rfl) (fun c a w h => hP c a _ _ w h) (hS.part (.cons_cons _ (.cons_cons _ (.cons_cons _ (.cons_cons _ .slnil)))) trivial (.cons _ .slnil)) (fun w1 hS => does_indexRow (k := i) Try.underlying22 (by kernel_rfl) rfl rfl (by omega) rfl (by omega)) ?_
      intro a hA
      refine any_one (by kernel_rfl) (op_row (us' := l.set i (outW fop fb b1 y1 b2 y2 i)) hA hS 15 rfl rfl rfl (sets_row (d := outW fop fb b1 y1 b2 y2 i) (by kernel_rfl) rfl rfl hS 0 rfl hi46) 0 rfl (outW_lt hB _) rfl ?_)
      intro w47 hS
      refine ⟨(hS.part (.cons_cons _ (.cons_cons _ (.cons_cons _ (.cons_cons _ .slnil)))) trivial (.cons _ .slnil)), ?_⟩
      refine any_end (by kernel_rfl) ?_
      refine hK33 _ _ ?_
      refine wp_region_lit ?_
      refine seq_do (v := .int .i64 (((i + 1 : Nat) : Int))) hA rfl rfl rfl (does_bin rfl rfl (fun w => (bin_add (i64In (by omega) (by omega)) w).trans (by rw [show (((i : Nat) : Int) + 1 : Int) = ((i + 1 : Nat) : Int) from by omega]))) ?_
      intro a hA
      refine seq_do hA rfl rfl rfl (does_move rfl) ?_
      intro a hA
      refine seq_end ?_
      refine hK28 _ _ _ (by omega) ⟨i + 1, l.set i (outW fop fb b1 y1 b2 y2 i), rfl, ⟨by omega, by rw [List.length_set]; exact hinv9, fun j hj => by rcases Nat.lt_succ_iff_lt_or_eq.1 hj with h | h; rw [List.getD_eq_getElem?_getD, List.getElem?_set_ne (by omega), ← List.getD_eq_getElem?_getD]; exact hinv8 j h; subst h; rw [List.getD_eq_getElem?_getD, List.getElem?_set_self (by omega)]; rfl⟩, hA.keep _ ⟨rfl, rfl, rfl, rfl, rfl, rfl, rfl, rfl, rfl, rfl, rfl, rfl, rfl, rfl, rfl, rfl, rfl, rfl, rfl, rfl, rfl, rfl, rfl, rfl, rfl, rfl, rfl, rfl, trivial⟩, ((hS.pickR [] trivial).subL _ (.cons_cons _ (.cons_cons _ (.cons_cons _ (.cons_cons _ .slnil)))))⟩
    · have hb31' := of_decide_eq_false hb31
      refine seq_do (v := .bool false) hA rfl rfl rfl (does_bin rfl rfl (fun w => (bin_lss w).trans (by rw [hb31]))) ?_
      intro a hA
      refine seq_end ?_
      refine hK30 _ _ ?_
      refine wp_seq_k (fun K48 hK48 => ?_)
      refine wp_cond_false (hA.ev rfl) ?_
      refine wp_exit ?_
      refine hK25 _ _ ?_
      refine wp_seq_k (fun K49 hK49 => ?_)
      refine wp_region_lit ?_
      refine seq_do (v := .pointer (some ⟨J18g, 1, none⟩)) hA rfl rfl rfl (does_field fld_49_1 rfl rfl) ?_
      intro a hA
      refine seq_do hA rfl rfl rfl (does_load1 hS is1_22 rfl 0 rfl rfl) ?_
      intro a hA
      refine seq_call hA rfl rfl rfl (enters_func  rfl rfl (fun w => by kernel_rfl)) (btrimN_any (hS.row 0 rfl) hinv9 (by omega)) ?_
      rintro _ w52 ⟨rfl, ho50, hw51⟩
      have hw9 := below_eq hw51
      have ho9 := ho50.below hw9
      have hS0 := hS
      replace hS := hS.call hw9
      replace hS : St w w52 [(J18g, [.bool ((fb b1 b2)), .slice (some ⟨g22, 0, none⟩) (max (words y1).length (words y2).length) (max (words y1).length (words y2).length)]), (g6, [.bool false, .slice none 0 0]), (g4, [.bool b2, .slice r2 ((words y2).length) rc2]), (g2, [.bool b1, .slice r1 ((words y1).length) rc1])] [] [(some ⟨g22, 0, none⟩, max (words y1).length (words y2).length, words (val l))] := hS.retake 0 rfl ho9
      refine ⟨_, rfl, ?_⟩
      intro a hA
      refine seq_do (v := .pointer (some ⟨J18g, 1, none⟩)) hA rfl rfl rfl (does_field fld_49_1 rfl rfl) ?_
      intro a hA
      refine seq_store (us := [.bool ((fb b1 b2)), .slice (some ⟨g22, 0, none⟩) ((words (val l)).length) (max (words y1).length (words y2).length)]) hA hS rfl rfl (sets_store (cs := [.slice (some ⟨g22, 0, none⟩) ((words (val l)).length) (max (words y1).length (words y2).length)]) rfl rfl rfl (by kernel_rfl) hS 0 rfl rfl rfl) 0 rfl rfl rfl rfl ?_
      intro w53 hS
      refine seq_end ?_
      refine hK49 _ _ ?_
      refine wp_seq_k (fun K54 hK54 => ?_)
      refine wp_region_lit ?_
      refine seq_do (v := .agg #[.bool ((fb b1 b2)), .slice (some ⟨g22, 0, none⟩) ((words (val l)).length) (max (words y1).length (words y2).length)]) hA rfl rfl rfl (does_loadS hS isS_49 rfl 0 rfl (cs := [.bool ((fb b1 b2)), .slice (some ⟨g22, 0, none⟩) ((words (val l)).length) (max (words y1).length (words y2).length)]) rfl rfl) ?_
      intro a hA
      refine seq_store (us := [.bool ((fb b1 b2)), .slice (some ⟨g22, 0, none⟩) ((words (val l)).length) (max (words y1).length (words y2).length)]) hA hS rfl rfl (sets_store (cs := [.bool ((fb b1 b2)), .slice (some ⟨g22, 0, none⟩) ((words (val l)).length) (max (words y1).length (words y2).length)]) rfl rfl rfl (by kernel_rfl) hS 1 rfl rfl rfl) 1 rfl rfl rfl rfl ?_
      intro w55 hS
      refine seq_end ?_
      refine hK54 _ _ ?_
      refine wp_ret ?_
      refine hret _ _ ?_
      refine ends (v := .agg #[.bool ((fb b1 b2)), .slice (some ⟨g22, 0, none⟩) ((words (val l)).length) (max (words y1).length (words y2).length)]) hA rfl (.cons (res_cell hS isS_49 rfl 1 rfl (cs := [.bool ((fb b1 b2)), .slice (some ⟨g22, 0, none⟩) ((words (val l)).length) (max (words y1).length (words y2).length)]) rfl rfl) .nil) rfl ?_
      have hi9 : i = max (words y1).length (words y2).length := by omega
      subst hi9
      have el : l = outL fop fb b1 y1 b2 y2 (max (words y1).length (words y2).length) := list_of_getD (by rw [outL_len]; exact hinv9) (fun j hj => by rw [outL_get (by omega)]; exact hinv8 j (by omega))
      subst el
      exact ⟨_, _, rfl, (hS.row 0 rfl).sc, hS.bel⟩
  refine wp_draw (S := fun w1 => St w w1 [(g6, [.bool false, .slice none 0 0]), (g4, [.bool b2, .slice r2 ((words y2).length) rc2]), (g2, [.bool b1, .slice r1 ((words y1).length) rc1])] [] []) (by kernel_rfl) ?_
  replace hS := hS.drew
  refine any_take hA 0 rfl rfl rfl rfl (by kernel_rfl) (by kernel_rfl) (by kernel_rfl) (fun c a w h => hP c a _ _ w h) (hS.part (.cons_cons _ (.cons_cons _ (.cons_cons _ .slnil))) trivial .slnil) (fun w1 hS => does_move rfl) ?_
  intro a hA
  refine any_take (v := .agg #[.bool b1, .slice r1 ((words y1).length) rc1]) hA 1 rfl rfl rfl rfl (by kernel_rfl) (by kernel_rfl) (by kernel_rfl) (fun c a w h => hP c a _ _ w h) (hS.part (.cons_cons _ (.cons_cons _ (.cons_cons _ .slnil))) trivial .slnil) (fun w1 hS => does_loadS hS isS_49 rfl 2 rfl (cs := [.bool b1, .slice r1 ((words y1).length) rc1]) rfl rfl) ?_
  intro a hA
  refine any_take (v := .agg #[.bool b2, .slice r2 ((words y2).length) rc2]) hA 3 rfl rfl rfl rfl (by kernel_rfl) (by kernel_rfl) (by kernel_rfl) (fun c a w h => hP c a _ _ w h) (hS.part (.cons_cons _ (.cons_cons _ (.cons_cons _ .slnil))) trivial .slnil) (fun w1 hS => does_loadS hS isS_49 rfl 1 rfl (cs := [.bool b2, .slice r2 ((words y2).length) rc2]) rfl rfl) ?_
  intro a hA
  refine any_many (rs := [2, 8]) (by kernel_rfl) (by simp) ⟨?_, ?_, trivial⟩
  · refine op_call hA 2 rfl rfl rfl rfl (enters_func  rfl rfl (fun w => by kernel_rfl)) (endless_any) ?_
    rintro _ w57 ⟨rfl, hb56⟩
    replace hS := hS.call hb56
    refine ⟨_, rfl, (hS.part (.cons_cons _ (.cons_cons _ (.cons_cons _ .slnil))) trivial .slnil), ?_⟩
    intro a hA
    refine any_many (rs := [4, 8]) (by kernel_rfl) (by simp) ⟨?_, ?_, trivial⟩
    · refine op_call hA 4 rfl rfl rfl rfl (enters_func  rfl rfl (fun w => by kernel_rfl)) (endless_any) ?_
      rintro _ w59 ⟨rfl, hb58⟩
      replace hS := hS.call hb58
      refine ⟨_, rfl, (hS.part (.cons_cons _ (.cons_cons _ (.cons_cons _ .slnil))) trivial .slnil), ?_⟩
      intro a hA
      refine any_many (rs := [5, 8]) (by kernel_rfl) (by simp) ⟨?_, ?_, trivial⟩
      · refine op_call hA 5 rfl rfl rfl rfl (enters_func  rfl rfl (fun w => hF.inv _ w)) (hF.does _ _ _ (ends_lt _) (ends_lt _)) ?_
        rintro _ w61 ⟨rfl, hb60⟩
        replace hS := hS.call hb60
        refine ⟨_, rfl, (hS.part (.cons_cons _ (.cons_cons _ (.cons_cons _ .slnil))) trivial .slnil), ?_⟩
        intro a hA
        refine any_take (v := .bool ((fb b1 b2))) hA 6 rfl rfl rfl rfl (by kernel_rfl) (by kernel_rfl) (by kernel_rfl) (fun c a w h => hP c a _ _ w h) (hS.part (.cons_cons _ (.cons_cons _ (.cons_cons _ .slnil))) trivial .slnil) (fun w1 hS => does_bin rfl rfl (fun w => (bin_neq w).trans (by rw [hnb]))) ?_
        intro a hA
        refine any_take (v := .agg #[.bool ((fb b1 b2)), .slice none 0 0]) hA 7 rfl rfl rfl rfl (by kernel_rfl) (by kernel_rfl) (by kernel_rfl) (fun c a w h => hP c a _ _ w h) (hS.part (.cons_cons _ (.cons_cons _ (.cons_cons _ .slnil))) trivial .slnil) (fun w1 hS => does_build rfl (fun w => by kernel_rfl)) ?_
        intro a hA
        refine any_one (by kernel_rfl) (op_new (vs := [.bool false, .slice none 0 0]) (t := 49) hA hS 8 rfl rfl rfl rfl (fun g => .pointer (some ⟨g, 0, none⟩)) (does_alloc (z := .agg #[.bool false, .slice none 0 0]) (by kernel_rfl) rfl) rfl ?_)
        intro g62 w63 hS
        refine ⟨(hS.part (.cons _ (.cons_cons _ (.cons_cons _ (.cons_cons _ .slnil)))) trivial .slnil), ?_⟩
        intro a hA
        refine any_one (by kernel_rfl) (op_store (us := [.bool ((fb b1 b2)), .slice none 0 0]) hA hS 9 rfl rfl rfl (sets_store (cs := [.bool ((fb b1 b2)), .slice none 0 0]) rfl rfl rfl (by kernel_rfl) hS 0 rfl rfl rfl) 0 rfl rfl rfl rfl ?_)
        intro w64 hS
        refine ⟨(hS.part (.cons _ (.cons_cons _ (.cons_cons _ (.cons_cons _ .slnil)))) trivial .slnil), ?_⟩
        refine any_end (by kernel_rfl) ?_
        refine hJ19 _ _ ⟨g62, hA.keep _ ⟨rfl, rfl, rfl, rfl, rfl, rfl, rfl, rfl, rfl, rfl, rfl, rfl, rfl, rfl, rfl, trivial⟩, ((hS.pickR [] trivial).pickL [(g62, [.bool ((fb b1 b2)), .slice none 0 0]), (g6, [.bool false, .slice none 0 0]), (g4, [.bool b2, .slice r2 ((words y2).length) rc2]), (g2, [.bool b1, .slice r1 ((words y1).length) rc1])] [0, 1, 2, 3] rfl (by decide))⟩
      · refine op_new (vs := [.bool false, .slice none 0 0]) (t := 49) hA hS 8 rfl rfl rfl rfl (fun g => .pointer (some ⟨g, 0, none⟩)) (does_alloc (z := .agg #[.bool false, .slice none 0 0]) (by kernel_rfl) rfl) rfl ?_
        intro g65 w66 hS
        refine ⟨(hS.part (.cons _ (.cons_cons _ (.cons_cons _ (.cons_cons _ .slnil)))) trivial .slnil), ?_⟩
        intro a hA
        refine any_one (by kernel_rfl) (op_call hA 5 rfl rfl rfl rfl (enters_func  rfl rfl (fun w => hF.inv _ w)) (hF.does _ _ _ (ends_lt _) (ends_lt _)) ?_)
        rintro _ w68 ⟨rfl, hb67⟩
        replace hS := hS.call hb67
        refine ⟨_, rfl, (hS.part (.cons _ (.cons_cons _ (.cons_cons _ (.cons_cons _ .slnil)))) trivial .slnil), ?_⟩
        intro a hA
        refine any_take (v := .bool ((fb b1 b2))) hA 6 rfl rfl rfl rfl (by kernel_rfl) (by kernel_rfl) (by kernel_rfl) (fun c a w h => hP c a _ _ w h) (hS.part (.cons _ (.cons_cons _ (.cons_cons _ (.cons_cons _ .slnil)))) trivial .slnil) (fun w1 hS => does_bin rfl rfl (fun w => (bin_neq w).trans (by rw [hnb]))) ?_
        intro a hA
        refine any_take (v := .agg #[.bool ((fb b1 b2)), .slice none 0 0]) hA 7 rfl rfl rfl rfl (by kernel_rfl) (by kernel_rfl) (by kernel_rfl) (fun c a w h => hP c a _ _ w h) (hS.part (.cons _ (.cons_cons _ (.cons_cons _ (.cons_cons _ .slnil)))) trivial .slnil) (fun w1 hS => does_build rfl (fun w => by kernel_rfl)) ?_
        intro a hA
        refine any_one (by kernel_rfl) (op_store (us := [.bool ((fb b1 b2)), .slice none 0 0]) hA hS 9 rfl rfl rfl (sets_store (cs := [.bool ((fb b1 b2)), .slice none 0 0]) rfl rfl rfl (by kernel_rfl) hS 0 rfl rfl rfl) 0 rfl rfl rfl rfl ?_)
        intro w69 hS
        refine ⟨(hS.part (.cons _ (.cons_cons _ (.cons_cons _ (.cons_cons _ .slnil)))) trivial .slnil), ?_⟩
        refine any_end (by kernel_rfl) ?_
        refine hJ19 _ _ ⟨g65, hA.keep _ ⟨rfl, rfl, rfl, rfl, rfl, rfl, rfl, rfl, rfl, rfl, rfl, rfl, rfl, rfl, rfl, trivial⟩, ((hS.pickR [] trivial).pickL [(g65, [.bool ((fb b1 b2)), .slice none 0 0]), (g6, [.bool false, .slice none 0 0]), (g4, [.bool b2, .slice r2 ((words y2).length) rc2]), (g2, [.bool b1, .slice r1 ((words y1).length) rc1])] [0, 1, 2, 3] rfl (by decide))⟩
    · refine op_new (vs := [.bool false, .slice none 0 0]) (t := 49) hA hS 8 rfl rfl rfl rfl (fun g => .pointer (some ⟨g, 0, none⟩)) (does_alloc (z := .agg #[.bool false, .slice none 0 0]) (by kernel_rfl) rfl) rfl ?_
      intro g70 w71 hS
      refine ⟨(hS.part (.cons _ (.cons_cons _ (.cons_cons _ (.cons_cons _ .slnil)))) trivial .slnil), ?_⟩
      intro a hA
      refine any_one (by kernel_rfl) (op_call hA 4 rfl rfl rfl rfl (enters_func  rfl rfl (fun w => by kernel_rfl)) (endless_any) ?_)
      rintro _ w73 ⟨rfl, hb72⟩
      replace hS := hS.call hb72
      refine ⟨_, rfl, (hS.part (.cons _ (.cons_cons _ (.cons_cons _ (.cons_cons _ .slnil)))) trivial .slnil), ?_⟩
      intro a hA
      refine any_one (by kernel_rfl) (op_call hA 5 rfl rfl rfl rfl (enters_func  rfl rfl (fun w => hF.inv _ w)) (hF.does _ _ _ (ends_lt _) (ends_lt _)) ?_)
      rintro _ w75 ⟨rfl, hb74⟩
      replace hS := hS.call hb74
      refine ⟨_, rfl, (hS.part (.cons _ (.cons_cons _ (.cons_cons _ (.cons_cons _ .slnil)))) trivial .slnil), ?_⟩
      intro a hA
      refine any_take (v := .bool ((fb b1 b2))) hA 6 rfl rfl rfl rfl (by kernel_rfl) (by kernel_rfl) (by kernel_rfl) (fun c a w h => hP c a _ _ w h) (hS.part (.cons _ (.cons_cons _ (.cons_cons _ (.cons_cons _ .slnil)))) trivial .slnil) (fun w1 hS => does_bin rfl rfl (fun w => (bin_neq w).trans (by rw [hnb]))) ?_
      intro a hA
      refine any_take (v := .agg #[.bool ((fb b1 b2)), .slice none 0 0]) hA 7 rfl rfl rfl rfl (by kernel_rfl) (by kernel_rfl) (by kernel_rfl) (fun c a w h => hP c a _ _ w h) (hS.part (.cons _ (.cons_cons _ (.cons_cons _ (.cons_cons _ .slnil)))) trivial .slnil) (fun w1 hS => does_build rfl (fun w => by kernel_rfl)) ?_
      intro a hA
      refine any_one (by kernel_rfl) (op_store (us := [.bool ((fb b1 b2)), .slice none 0 0]) hA hS 9 rfl rfl rfl (sets_store (cs := [.bool ((fb b1 b2)), .slice none 0 0]) rfl rfl rfl (by kernel_rfl) hS 0 rfl rfl rfl) 0 rfl rfl rfl rfl ?_)
      intro w76 hS
      refine ⟨(hS.part (.cons _ (.cons_cons _ (.cons_cons _ (.cons_cons _ .slnil)))) trivial .slnil), ?_⟩
      refine any_end (by kernel_rfl) ?_
      refine hJ19 _ _ ⟨g70, hA.keep _ ⟨rfl, rfl, rfl, rfl, rfl, rfl, rfl, rfl, rfl, rfl, rfl, rfl, rfl, rfl, rfl, trivial⟩, ((hS.pickR [] trivial).pickL [(g70, [.bool ((fb b1 b2)), .slice none 0 0]), (g6, [.bool false, .slice none 0 0]), (g4, [.bool b2, .slice r2 ((words y2).length) rc2]), (g2, [.bool b1, .slice r1 ((words y1).length) rc1])] [0, 1, 2, 3] rfl (by decide))⟩
  · refine op_new (vs := [.bool false, .slice none 0 0]) (t := 49) hA hS 8 rfl rfl rfl rfl (fun g => .pointer (some ⟨g, 0, none⟩)) (does_alloc (z := .agg #[.bool false, .slice none 0 0]) (by kernel_rfl) rfl) rfl ?_
    intro g77 w78 hS
    refine ⟨(hS.part (.cons _ (.cons_cons _ (.cons_cons _ (.cons_cons _ .slnil)))) trivial .slnil), ?_⟩
    intro a hA
    refine any_one (by kernel_rfl) (op_call hA 2 rfl rfl rfl rfl (enters_func  rfl rfl (fun w => by kernel_rfl)) (endless_any) ?_)
    rintro _ w80 ⟨rfl, hb79⟩
    replace hS := hS.call hb79
    refine ⟨_, rfl, (hS.part (.cons _ (.cons_cons _ (.cons_cons _ (.cons_cons _ .slnil)))) trivial .slnil), ?_⟩
    intro a hA
    refine any_one (by kernel_rfl) (op_call hA 4 rfl rfl rfl rfl (enters_func  rfl rfl (fun w => by kernel_rfl)) (endless_any) ?_)
    rintro _ w82 ⟨rfl, hb81⟩
    replace hS := hS.call hb81
    refine ⟨_, rfl, (hS.part (.cons _ (.cons_cons _ (.cons_cons _ (.cons_cons _ .slnil)))) trivial .slnil), ?_⟩
    intro a hA
    refine any_one (by kernel_rfl) (op_call hA 5 rfl rfl rfl rfl (enters_func  rfl rfl (fun w => hF.inv _ w)) (hF.does _ _ _ (ends_lt _) (ends_lt _)) ?_)
    rintro _ w84 ⟨rfl, hb83⟩
    replace hS := hS.call hb83
    refine ⟨_, rfl, (hS.part (.cons _ (.cons_cons _ (.cons_cons _ (.cons_cons _ .slnil)))) trivial .slnil), ?_⟩
    intro a hA
    refine any_take (v := .bool ((fb b1 b2))) hA 6 rfl rfl rfl rfl (by kernel_rfl) (by kernel_rfl) (by kernel_rfl) (fun c a w h => hP c a _ _ w h) (hS.part (.cons _ (.cons_cons _ (.cons_cons _ (.cons_cons _ .slnil)))) trivial .slnil) (fun w1 hS => does_bin rfl rfl (fun w => (bin_neq w).trans (by rw [hnb]))) ?_
    intro a hA
    refine any_take (v := .agg #[.bool ((fb b1 b2)), .slice none 0 0]) hA 7 rfl rfl rfl rfl (by kernel_rfl) (by kernel_rfl) (by kernel_rfl) (fun c a w h => hP c a _ _ w h) (hS.part (.cons _ (.cons_cons _ (.cons_cons _ (.cons_cons _ .slnil)))) trivial .slnil) (fun w1 hS => does_build rfl (fun w => by kernel_rfl)) ?_
    intro a hA
    refine any_one (by kernel_rfl) (op_store (us := [.bool ((fb b1 b2)), .slice none 0 0]) hA hS 9 rfl rfl rfl (sets_store (cs := [.bool ((fb b1 b2)), .slice none 0 0]) rfl rfl rfl (by kernel_rfl) hS 0 rfl rfl rfl) 0 rfl rfl rfl rfl ?_)
    intro w85 hS
    refine ⟨(hS.part (.cons _ (.cons_cons _ (.cons_cons _ (.cons_cons _ .slnil)))) trivial .slnil), ?_⟩
    refine any_end (by kernel_rfl) ?_
    refine hJ19 _ _ ⟨g77, hA.keep _ ⟨rfl, rfl, rfl, rfl, rfl, rfl, rfl, rfl, rfl, rfl, rfl, rfl, rfl, rfl, rfl, trivial⟩, ((hS.pickR [] trivial).pickL [(g77, [.bool ((fb b1 b2)), .slice none 0 0]), (g6, [.bool false, .slice none 0 0]), (g4, [.bool b2, .slice r2 ((words y2).length) rc2]), (g2, [.bool b1, .slice r1 ((words y1).length) rc1])] [0, 1, 2, 3] rfl (by decide))⟩
end Go.Proofs.Yteghiinbafbokaa
namespace Go.Proofs.Yteghiinbafbokaa
open Go.RowKit
set_option linter.unusedVariables false
set_option linter.unusedSimpArgs false

theorem putY_len {fop : Nat → Nat → Nat} {fb : Bool → Bool → Bool} (h : BOp fop fb) {b1 b2 : Bool} {y1 y2 : Nat} {k : Nat} (h1 : (words y1).length ≤ k) (h2 : (words y2).length ≤ k) : (words (putY fop fb b1 y1 b2 y2)).length ≤ k := by
  have := val_lt (outL_dig (b1 := b1) (y1 := y1) (b2 := b2) (y2 := y2) h (max (words y1).length (words y2).length))
  rw [outL_len] at this
  exact Nat.le_trans (words_length_le this) (by omega)
def bitQ (fop : Nat → Nat → Nat) (fb : Bool → Bool → Bool) (p q : Q6) : Q6 × Int :=
  if want2 p q = 0 then bigS (fb p.b1 q.b1) (putY fop fb p.b1 (val p.t1 - p.b1.toNat) q.b1 (val q.t1 - q.b1.toNat) + (fb p.b1 q.b1).toNat) else (Q6.zero, want2 p q)
theorem bitQ_err {fop : Nat → Nat → Nat} {fb : Bool → Bool → Bool} {p q : Q6} (h : (want2 p q != 0) = true) : bitQ fop fb p q = (Q6.zero, want2 p q) := by unfold bitQ; rw [if_neg (bne_iff_ne.1 h)]
theorem bitQ_whole {fop : Nat → Nat → Nat} {fb : Bool → Bool → Bool} {b1 b2 : Bool} {x1 x2 : Nat} (h : want2 (Q6.whole b1 x1) (Q6.whole b2 x2) = 0) : bitQ fop fb (Q6.whole b1 x1) (Q6.whole b2 x2) = bigS (fb b1 b2) (putY fop fb b1 (x1 - b1.toNat) b2 (x2 - b2.toNat) + (fb b1 b2).toNat) := by
  unfold bitQ; rw [if_pos h]; simp only [Q6.whole, val_words]
theorem want2_cases (p q : Q6) : (want2 p q = 0 ∧ wholeQ p = true ∧ wholeQ q = true) ∨ (want2 p q != 0) = true := by
  unfold want2
  by_cases h1 : soundQ p = true ∧ soundQ q = true
  · rw [if_pos h1]
    by_cases h2 : wholeQ p = true ∧ wholeQ q = true
    · rw [if_pos h2]; exact .inl ⟨rfl, h2⟩
    · rw [if_neg h2]; exact .inr (by decide)
  · rw [if_neg h1]; exact .inr (by decide)
theorem sub_len {b : Bool} {x k : Nat} (h : (words x).length ≤ k) : (words (x - b.toNat)).length ≤ k := Nat.le_trans (words_mono (Nat.sub_le x b.toNat)) h
end Go.Proofs.Yteghiinbafbokaa
