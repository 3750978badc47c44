/- Walks of the powers. Walks of Expt. Walks of fields of bits. Walks of the law on fields. Shifts and fields of bits as products, quotients and rests. Walks of the law on shifts and fields. Numbers that come in as arguments. -/
import Derived.Test.YtmibkfihcihphaaPbitsmo9d
import Derived.Test.YtmibkfihcihphaaPbitsmo9c
import Derived.Test.YtmibkfihcihphaaPbitsmo9a
import Derived.Test.YtmibkfihcihphaaArgs
import Derived.WalkKit
import Derived.ProofKit
import Derived.OpenShut
import Derived.ChangeOld
import Derived.Lib.SmallJoins
import Derived.Deep.Strs
namespace Go.Proofs.Ytmibkfihcihphaa
open Go.RowKit
set_option linter.unusedVariables false
set_option linter.unusedSimpArgs false
set_option maxRecDepth 100000
theorem ExU_is1_22 : Is1 Try.prog 22 := ⟨⟨_, Try.underlying22, rfl⟩, by kernel_rfl⟩
theorem ExU_fld_46_1 : FieldAt Try.prog 46 1 1 := ⟨_, _, Try.underlying46, rfl, rfl, by kernel_rfl⟩
theorem ExU_fld_48_0 : FieldAt Try.prog 48 0 0 := ⟨_, _, Try.underlying48, rfl, rfl, by kernel_rfl⟩
theorem ExU_fld_48_1 : FieldAt Try.prog 48 1 2 := ⟨_, _, Try.underlying48, rfl, rfl, by kernel_rfl⟩
theorem ExU_fld_48_2 : FieldAt Try.prog 48 2 4 := ⟨_, _, Try.underlying48, rfl, rfl, by kernel_rfl⟩
theorem ExU_isS_26 : IsS Try.prog 26 6 := ⟨⟨_, Try.underlying26⟩, by kernel_rfl⟩
theorem ExU_isS_48 : IsS Try.prog 48 5 := ⟨⟨_, Try.underlying48⟩, by kernel_rfl⟩
set_option maxHeartbeats 1000000 in
theorem zpower_any {w : World} {x y : Int} {d n : Nat} {a1 a2 a3 : Option Addr} {ac1 ac2 ac3 : Nat} (ha1 : Sc w a1 ac1 (words x.natAbs)) (ha2 : Sc w a2 ac2 (words y.natAbs)) (ha3 : Sc w a3 ac3 (words d)) (l1 : (words x.natAbs).length ≤ 1024) (l2 : (words y.natAbs).length ≤ 1024) (l3 : (words d).length ≤ 1024) (hd : d ≠ 0) {u v : Rat} (hu : mkRat x d = u) (hv : mkRat y d = v) (fu : fitR u) (fv : fitR v) (hn1 : 1 ≤ n) (hn2 : n ≤ 1024) : Calls Try.prog 42 #[.agg #[.bool (rb x), .slice a1 (words x.natAbs).length ac1, .bool (rb y), .slice a2 (words y.natAbs).length ac2, .slice a3 (words d).length ac3], .int .i64 ((n : Nat) : Int)] w (AnsPw w u v n) := by
  have hS : St w w [] [(a3, words d), (a2, words y.natAbs), (a1, words x.natAbs)] [] := (((St.start w).addR ha1.rd).addR ha2.rd).addR ha3.rd
  refine walk_of (l := [(0, .agg #[.bool ((rb x)), .slice a1 ((words x.natAbs).length) ac1, .bool ((rb y)), .slice a2 ((words y.natAbs).length) ac2, .slice a3 ((words d).length) ac3]), (1, .int .i64 (((n : Nat) : Int)))]) Try.func42 rfl Try.ntmps42 rfl rfl ?_
  intro Q hret hnorm hP a hA
  refine wp_seq_k (fun K1 hK1 => ?_)
  refine wp_region_lit ?_
  refine seq_new (vs := [.bool ((rb x)), .slice a1 ((words x.natAbs).length) ac1, .bool ((rb y)), .slice a2 ((words y.natAbs).length) ac2, .slice a3 ((words d).length) ac3]) (t := 48) hA hS rfl rfl rfl (fun g => .pointer (some ⟨g, 0, none⟩)) (does_box rfl rfl) rfl ?_
  intro g2 w3 hS a hA
  refine seq_new (vs := [.bool false, .slice none 0 0, .bool false, .slice none 0 0, .slice none 0 0]) (t := 48) hA hS rfl rfl rfl (fun g => .pointer (some ⟨g, 0, none⟩)) (does_alloc (z := .agg #[.bool false, .slice none 0 0, .bool false, .slice none 0 0, .slice none 0 0]) (by kernel_rfl) rfl) rfl ?_
  intro g4 w5 hS a hA
  refine seq_do hA rfl rfl rfl (does_assign rfl) ?_
  intro a hA
  refine seq_end ?_
  refine hK1 _ _ ?_
  refine wp_seq_k (fun K6 hK6 => ?_)
  refine wp_region_lit ?_
  refine seq_do (v := .agg #[.bool ((rb x)), .slice a1 ((words x.natAbs).length) ac1, .bool ((rb y)), .slice a2 ((words y.natAbs).length) ac2, .slice a3 ((words d).length) ac3]) hA rfl rfl rfl (does_loadS hS ExU_isS_48 rfl 1 rfl (cs := [.bool ((rb x)), .slice a1 ((words x.natAbs).length) ac1, .bool ((rb y)), .slice a2 ((words y.natAbs).length) ac2, .slice a3 ((words d).length) ac3]) rfl rfl) ?_
  intro a hA
  refine seq_new (vs := [.bool false, .slice none 0 0, .bool false, .slice none 0 0, .slice none 0 0]) (t := 48) hA hS rfl rfl rfl (fun g => .pointer (some ⟨g, 0, none⟩)) (does_alloc (z := .agg #[.bool false, .slice none 0 0, .bool false, .slice none 0 0, .slice none 0 0]) (by kernel_rfl) rfl) rfl ?_
  intro g7 w8 hS a hA
  refine seq_store (us := [.bool ((rb x)), .slice a1 ((words x.natAbs).length) ac1, .bool ((rb y)), .slice a2 ((words y.natAbs).length) ac2, .slice a3 ((words d).length) ac3]) hA hS rfl rfl (sets_store (cs := [.bool ((rb x)), .slice a1 ((words x.natAbs).length) ac1, .bool ((rb y)), .slice a2 ((words y.natAbs).length) ac2, .slice a3 ((words d).length) ac3]) rfl rfl rfl (by kernel_rfl) hS 0 rfl rfl rfl) 0 rfl rfl rfl rfl ?_
  intro w9 hS
  refine seq_end ?_
  refine hK6 _ _ ?_
  refine wp_seq_k (fun K10 hK10 => ?_)
  refine wp_seq_k (fun K11 hK11 => ?_)
  refine wp_region_lit ?_
  refine seq_do hA rfl rfl rfl (does_move rfl) ?_
  intro a hA
  refine seq_do (v := .int .i64 (((n - 1 : Nat) : Int))) hA rfl rfl rfl (does_bin rfl rfl (fun w => (bin_sub (i64In (by omega) (by omega)) w).trans (by rw [show (((n : Nat) : Int) - 1 : Int) = ((n - 1 : Nat) : Int) from by omega]))) ?_
  intro a hA
  refine seq_do hA rfl rfl rfl (does_move rfl) ?_
  intro a hA
  refine seq_end ?_
  refine hK11 _ _ ?_
  refine wp_block ?_
  refine wp_loop_n (fun m a w1 => ∃ (i : Nat) (X : Int) (Y : Int) (D : Nat) (po1 : Option Addr) (poc1 : Nat) (po2 : Option Addr) (poc2 : Nat) (po3 : Option Addr) (poc3 : Nat), m = n - 1 - i ∧ (i + 1 ≤ n ∧ pwB u v (i + 1) = true ∧ PwOut u v (i + 1) X Y D ∧ Ncap po1 poc1 (words X.natAbs) ∧ Ncap po2 poc2 (words Y.natAbs) ∧ Ncap po3 poc3 (words D)) ∧ Sl a 45 [(0, .agg #[.bool ((rb x)), .slice a1 ((words x.natAbs).length) ac1, .bool ((rb y)), .slice a2 ((words y.natAbs).length) ac2, .slice a3 ((words d).length) ac3]), (1, .int .i64 (((n : Nat) : Int))), (2, .pointer (some ⟨g2, 0, none⟩)), (4, .pointer (some ⟨g4, 0, none⟩)), (6, .pointer (some ⟨g7, 0, none⟩)), (9, .agg #[.bool ((rb x)), .slice a1 ((words x.natAbs).length) ac1, .bool ((rb y)), .slice a2 ((words y.natAbs).length) ac2, .slice a3 ((words d).length) ac3]), (10, .int .i64 (((n : Nat) : Int))), (11, .int .i64 (((n - 1 : Nat) : Int))), (12, .int .i64 (((i : Nat) : Int)))] ∧ St w w1 [(g7, [.bool ((rb X)), .slice po1 ((words X.natAbs).length) poc1, .bool ((rb Y)), .slice po2 ((words Y.natAbs).length) poc2, .slice po3 ((words D).length) poc3]), (g4, [.bool false, .slice none 0 0, .bool false, .slice none 0 0, .slice none 0 0]), (g2, [.bool ((rb x)), .slice a1 ((words x.natAbs).length) ac1, .bool ((rb y)), .slice a2 ((words y.natAbs).length) ac2, .slice a3 ((words d).length) ac3])] [(po1, words X.natAbs), (po2, words Y.natAbs), (po3, words D), (a3, words d), (a2, words y.natAbs), (a1, words x.natAbs)] []) _ ⟨0, x, y, d, a1, ac1, a2, ac2, a3, ac3, rfl, ⟨hn1, pwB_first fu fv, pwOut_first hd hu hv l1 l2 l3, ha1.ncap, ha2.ncap, ha3.ncap⟩, hA.keep _ ⟨rfl, rfl, rfl, rfl, rfl, rfl, rfl, rfl, rfl, trivial⟩, ((hS.pickR [(a1, words x.natAbs), (a2, words y.natAbs), (a3, words d), (a3, words d), (a2, words y.natAbs), (a1, words x.natAbs)] ⟨⟨2, rfl⟩, ⟨⟨1, rfl⟩, ⟨⟨0, rfl⟩, ⟨⟨0, rfl⟩, ⟨⟨1, rfl⟩, ⟨⟨2, rfl⟩, trivial⟩⟩⟩⟩⟩⟩).subL _ (.refl _))⟩ ?_
  clear hS hA
  rintro m a w12 ⟨i, X, Y, D, po1, poc1, po2, poc2, po3, poc3, rfl, hinv14, hA, hS⟩ K13 hK13
  obtain ⟨hi9, hB9, ⟨hD9, hX9, hY9, lX9, lY9, lD9⟩, kn1, kn2, kn3⟩ := hinv14
  have hS9 := pw_step hD9 hd hX9 hY9 hu hv
  have q1 := abs_mul_len lX9 l1
  have q2 := abs_mul_len lY9 l2
  have q3 := abs_mul_len lX9 l2
  have q4 := abs_mul_len lY9 l1
  have q5 := abs_add_len q1 (neg_len q2)
  have q6 := abs_add_len q3 q4
  have q7 := words_mul_length lD9 l3
  refine wp_seq_k (fun K15 hK15 => ?_)
  refine wp_region_lit ?_
  rcases Bool.eq_false_or_eq_true (decide (((i : Nat) : Int) < ((n - 1 : Nat) : Int))) with hb16 | hb16
  · have hb16' := of_decide_eq_true hb16
    refine seq_do (v := .bool true) hA rfl rfl rfl (does_bin rfl rfl (fun w => (bin_lss w).trans (by rw [hb16]))) ?_
    intro a hA
    refine seq_end ?_
    refine hK15 _ _ ?_
    refine wp_seq_k (fun K17 hK17 => ?_)
    refine wp_cond_true (hA.ev rfl) ?_
    refine wp_skip ?_
    refine hK17 _ _ ?_
    refine wp_seq_k (fun K18 hK18 => ?_)
    refine wp_block ?_
    refine wp_seq_k (fun K19 hK19 => ?_)
    refine wp_region_lit ?_
    refine seq_do (v := .agg #[.bool ((rb X)), .slice po1 ((words X.natAbs).length) poc1, .bool ((rb Y)), .slice po2 ((words Y.natAbs).length) poc2, .slice po3 ((words D).length) poc3]) hA rfl rfl rfl (does_loadS hS ExU_isS_48 rfl 0 rfl (cs := [.bool ((rb X)), .slice po1 ((words X.natAbs).length) poc1, .bool ((rb Y)), .slice po2 ((words Y.natAbs).length) poc2, .slice po3 ((words D).length) poc3]) rfl rfl) ?_
    intro a hA
    refine seq_do (v := .agg #[.bool ((rb x)), .slice a1 ((words x.natAbs).length) ac1, .bool ((rb y)), .slice a2 ((words y.natAbs).length) ac2, .slice a3 ((words d).length) ac3]) hA rfl rfl rfl (does_loadS hS ExU_isS_48 rfl 2 rfl (cs := [.bool ((rb x)), .slice a1 ((words x.natAbs).length) ac1, .bool ((rb y)), .slice a2 ((words y.natAbs).length) ac2, .slice a3 ((words d).length) ac3]) rfl rfl) ?_
    intro a hA
    refine seq_call hA rfl rfl rfl (enters_func  rfl rfl (fun w => by kernel_rfl)) (zproduct_any ⟨(hS.rd 0 rfl), kn1.1, kn1.2⟩ ⟨(hS.rd 1 rfl), kn2.1, kn2.2⟩ ⟨(hS.rd 2 rfl), kn3.1, kn3.2⟩ ⟨(hS.rd 5 rfl), ha1.nil, ha1.cap⟩ ⟨(hS.rd 4 rfl), ha2.nil, ha2.cap⟩ ⟨(hS.rd 3 rfl), ha3.nil, ha3.cap⟩ (by omega) (by omega) (by omega) (by omega) (by omega) (by omega)) ?_
    rintro _ w25 ⟨p20_1, p20_c1, p20_2, p20_c2, p20_3, p20_c3, rfl, hs21, hs22, hs23, hb24⟩
    replace hS := hS.call hb24
    replace hS := hS.addR hs21.rd
    replace hS := hS.addR hs22.rd
    replace hS := hS.addR hs23.rd
    refine ⟨_, rfl, ?_⟩
    intro a hA
    refine seq_store (us := [.bool ((rb (X * x + -(Y * y)))), .slice p20_1 ((words (X * x + -(Y * y)).natAbs).length) p20_c1, .bool ((rb (X * y + Y * x))), .slice p20_2 ((words (X * y + Y * x).natAbs).length) p20_c2, .slice p20_3 ((words (D * d)).length) p20_c3]) hA hS rfl rfl (sets_store (cs := [.bool ((rb (X * x + -(Y * y)))), .slice p20_1 ((words (X * x + -(Y * y)).natAbs).length) p20_c1, .bool ((rb (X * y + Y * x))), .slice p20_2 ((words (X * y + Y * x).natAbs).length) p20_c2, .slice p20_3 ((words (D * d)).length) p20_c3]) rfl rfl rfl (by kernel_rfl) hS 0 rfl rfl rfl) 0 rfl rfl rfl rfl ?_
    intro w26 hS
    refine seq_end ?_
    refine hK19 _ _ ?_
    refine wp_seq_k (fun K27 hK27 => ?_)
    refine wp_seq_k (fun K28 hK28 => ?_)
    refine wp_region_lit ?_
    refine seq_do (v := .pointer (some ⟨g7, 0, none⟩)) hA rfl rfl rfl (does_field ExU_fld_48_0 rfl rfl) ?_
    intro a hA
    refine seq_do (v := .pointer (some ⟨g7, 1, none⟩)) hA rfl rfl rfl (does_field ExU_fld_46_1 rfl rfl) ?_
    intro a hA
    refine seq_do hA rfl rfl rfl (does_load1 hS ExU_is1_22 rfl 0 rfl rfl) ?_
    intro a hA
    rcases Bool.eq_false_or_eq_true (decide ((words (X * x + -(Y * y)).natAbs).length ≤ 512)) with hb29 | hb29
    · have hb29' := of_decide_eq_true hb29
      refine seq_call hA rfl rfl rfl (enters_func  rfl rfl (fun w => by kernel_rfl)) (soundB_any _ (hS.rd 2 rfl) (by omega) hb29) ?_
      rintro _ w31 ⟨rfl, hb30⟩
      replace hb30 := below_eq hb30
      replace hS := hS.call hb30
      refine ⟨_, rfl, ?_⟩
      intro a hA
      refine seq_do hA rfl rfl rfl (does_move rfl) ?_
      intro a hA
      refine seq_do (v := .pointer (some ⟨g7, 2, none⟩)) hA rfl rfl rfl (does_field ExU_fld_48_1 rfl rfl) ?_
      intro a hA
      refine seq_do (v := .pointer (some ⟨g7, 3, none⟩)) hA rfl rfl rfl (does_field ExU_fld_46_1 rfl rfl) ?_
      intro a hA
      refine seq_do hA rfl rfl rfl (does_load1 hS ExU_is1_22 rfl 0 rfl rfl) ?_
      intro a hA
      rcases Bool.eq_false_or_eq_true (decide ((words (X * y + Y * x).natAbs).length ≤ 512)) with hb32 | hb32
      · have hb32' := of_decide_eq_true hb32
        refine seq_call hA rfl rfl rfl (enters_func  rfl rfl (fun w => by kernel_rfl)) (soundB_any _ (hS.rd 1 rfl) (by omega) hb32) ?_
        rintro _ w34 ⟨rfl, hb33⟩
        replace hb33 := below_eq hb33
        replace hS := hS.call hb33
        refine ⟨_, rfl, ?_⟩
        intro a hA
        refine seq_do (v := .bool true) hA rfl rfl rfl (does_pick rfl rfl rfl rfl) ?_
        intro a hA
        refine seq_do hA rfl rfl rfl (does_move rfl) ?_
        intro a hA
        refine seq_do (v := .pointer (some ⟨g7, 4, none⟩)) hA rfl rfl rfl (does_field ExU_fld_48_2 rfl rfl) ?_
        intro a hA
        refine seq_do hA rfl rfl rfl (does_load1 hS ExU_is1_22 rfl 0 rfl rfl) ?_
        intro a hA
        rcases Bool.eq_false_or_eq_true (decide ((words (D * d)).length ≤ 512)) with hb35 | hb35
        · have hb35' := of_decide_eq_true hb35
          refine seq_call hA rfl rfl rfl (enters_func  rfl rfl (fun w => by kernel_rfl)) (soundB_any _ (hS.rd 0 rfl) (by omega) hb35) ?_
          rintro _ w37 ⟨rfl, hb36⟩
          replace hb36 := below_eq hb36
          replace hS := hS.call hb36
          refine ⟨_, rfl, ?_⟩
          intro a hA
          refine seq_do (v := .bool true) hA rfl rfl rfl (does_pick rfl rfl rfl rfl) ?_
          intro a hA
          refine seq_end ?_
          refine hK28 _ _ ?_
          refine wp_cond_true (hA.ev rfl) ?_
          refine wp_exit ?_
          refine hK18 _ _ ?_
          refine wp_region_lit ?_
          refine seq_do (v := .int .i64 (((i + 1 : Nat) : Int))) hA rfl rfl rfl (does_bin rfl rfl (fun w => (bin_add (i64In (by omega) (by omega)) w).trans (by rw [show (((i : Nat) : Int) + 1 : Int) = ((i + 1 : Nat) : Int) from by omega]))) ?_
          intro a hA
          refine seq_do hA rfl rfl rfl (does_move rfl) ?_
          intro a hA
          refine seq_end ?_
          refine hK13 _ _ _ (by omega) ⟨i + 1, X * x + -(Y * y), X * y + Y * x, D * d, p20_1, p20_c1, p20_2, p20_c2, p20_3, p20_c3, rfl, ⟨by omega, pwB_step hB9 (fit_mk (Nat.mul_ne_zero hD9 hd) (of_decide_eq_true hb29) (of_decide_eq_true hb35) hS9.1) (fit_mk (Nat.mul_ne_zero hD9 hd) (of_decide_eq_true hb32) (of_decide_eq_true hb35) hS9.2), ⟨Nat.mul_ne_zero hD9 hd, hS9.1, hS9.2, Nat.le_trans (of_decide_eq_true hb29) (by decide), Nat.le_trans (of_decide_eq_true hb32) (by decide), Nat.le_trans (of_decide_eq_true hb35) (by decide)⟩, ⟨hs21.nil, hs21.cap⟩, ⟨hs22.nil, hs22.cap⟩, ⟨hs23.nil, hs23.cap⟩⟩, hA.keep _ ⟨rfl, rfl, rfl, rfl, rfl, rfl, rfl, rfl, rfl, trivial⟩, ((hS.pickR [(p20_1, words (X * x + -(Y * y)).natAbs), (p20_2, words (X * y + Y * x).natAbs), (p20_3, words (D * d)), (a3, words d), (a2, words y.natAbs), (a1, words x.natAbs)] ⟨⟨2, rfl⟩, ⟨⟨1, rfl⟩, ⟨⟨0, rfl⟩, ⟨⟨6, rfl⟩, ⟨⟨7, rfl⟩, ⟨⟨8, rfl⟩, trivial⟩⟩⟩⟩⟩⟩).subL _ (.refl _))⟩
        · have hb35' := of_decide_eq_false hb35
          refine seq_call hA rfl rfl rfl (enters_func  rfl rfl (fun w => by kernel_rfl)) (soundB_any _ (hS.rd 0 rfl) (by omega) hb35) ?_
          rintro _ w39 ⟨rfl, hb38⟩
          replace hb38 := below_eq hb38
          replace hS := hS.call hb38
          refine ⟨_, rfl, ?_⟩
          intro a hA
          refine seq_do (v := .bool false) hA rfl rfl rfl (does_pick rfl rfl rfl rfl) ?_
          intro a hA
          refine seq_end ?_
          refine hK28 _ _ ?_
          refine wp_cond_false (hA.ev rfl) ?_
          refine wp_skip ?_
          refine hK27 _ _ ?_
          refine wp_seq_k (fun K40 hK40 => ?_)
          refine wp_region_lit ?_
          refine seq_do (v := .agg #[.bool ((rb (X * x + -(Y * y)))), .slice p20_1 ((words (X * x + -(Y * y)).natAbs).length) p20_c1, .bool ((rb (X * y + Y * x))), .slice p20_2 ((words (X * y + Y * x).natAbs).length) p20_c2, .slice p20_3 ((words (D * d)).length) p20_c3]) hA rfl rfl rfl (does_loadS hS ExU_isS_48 rfl 0 rfl (cs := [.bool ((rb (X * x + -(Y * y)))), .slice p20_1 ((words (X * x + -(Y * y)).natAbs).length) p20_c1, .bool ((rb (X * y + Y * x))), .slice p20_2 ((words (X * y + Y * x).natAbs).length) p20_c2, .slice p20_3 ((words (D * d)).length) p20_c3]) rfl rfl) ?_
          intro a hA
          rcases Bool.eq_false_or_eq_true (fitB (pwR u v (i + 1 + 1))) with hb41 | hb41
          · refine seq_call hA rfl rfl rfl (enters_func  rfl rfl (fun w => by kernel_rfl)) (zsettle_as ⟨(hS.rd 2 rfl), hs21.nil, hs21.cap⟩ ⟨(hS.rd 1 rfl), hs22.nil, hs22.cap⟩ ⟨(hS.rd 0 rfl), hs23.nil, hs23.cap⟩ ((set_pw (Nat.mul_ne_zero hD9 hd) hS9.1 hS9.2).trans (ratS_fit (fitB_ok hb41).1 (fitB_ok hb41).2)) (by omega) (by omega) (by omega) (Nat.mul_ne_zero hD9 hd)) ?_
            rintro _ w45 ⟨p42_1, p42_c1, p42_2, p42_c2, p42_3, p42_c3, p42_4, p42_c4, rfl, hn43, hb44⟩
            replace hS := hS.call hb44
            replace hS := hS.addR hn43.s1.rd
            replace hS := hS.addR hn43.s2.rd
            replace hS := hS.addR hn43.s3.rd
            replace hS := hS.addR hn43.s4.rd
            refine ⟨_, rfl, ?_⟩
            intro a hA
            refine seq_do hA rfl rfl rfl (does_move rfl) ?_
            intro a hA
            refine seq_do (v := .agg #[.bool (rb (pwR u v (i + 1 + 1)).1.num), .slice p42_1 ((words (pwR u v (i + 1 + 1)).1.num.natAbs).length) p42_c1, .slice p42_2 ((words (pwR u v (i + 1 + 1)).1.den).length) p42_c2, .bool (rb (pwR u v (i + 1 + 1)).2.num), .slice p42_3 ((words (pwR u v (i + 1 + 1)).2.num.natAbs).length) p42_c3, .slice p42_4 ((words (pwR u v (i + 1 + 1)).2.den).length) p42_c4]) hA rfl rfl rfl (does_extract (vs := [.agg #[.bool (rb (pwR u v (i + 1 + 1)).1.num), .slice p42_1 ((words (pwR u v (i + 1 + 1)).1.num.natAbs).length) p42_c1, .slice p42_2 ((words (pwR u v (i + 1 + 1)).1.den).length) p42_c2, .bool (rb (pwR u v (i + 1 + 1)).2.num), .slice p42_3 ((words (pwR u v (i + 1 + 1)).2.num.natAbs).length) p42_c3, .slice p42_4 ((words (pwR u v (i + 1 + 1)).2.den).length) p42_c4], .int .i64 0]) rfl rfl) ?_
            intro a hA
            refine seq_do (v := .int .i64 0) hA rfl rfl rfl (does_extract (vs := [.agg #[.bool (rb (pwR u v (i + 1 + 1)).1.num), .slice p42_1 ((words (pwR u v (i + 1 + 1)).1.num.natAbs).length) p42_c1, .slice p42_2 ((words (pwR u v (i + 1 + 1)).1.den).length) p42_c2, .bool (rb (pwR u v (i + 1 + 1)).2.num), .slice p42_3 ((words (pwR u v (i + 1 + 1)).2.num.natAbs).length) p42_c3, .slice p42_4 ((words (pwR u v (i + 1 + 1)).2.den).length) p42_c4], .int .i64 0]) rfl rfl) ?_
            intro a hA
            refine seq_new (vs := [.bool false, .slice none 0 0, .slice none 0 0, .bool false, .slice none 0 0, .slice none 0 0]) (t := 26) hA hS rfl rfl rfl (fun g => .pointer (some ⟨g, 0, none⟩)) (does_alloc (z := .agg #[.bool false, .slice none 0 0, .slice none 0 0, .bool false, .slice none 0 0, .slice none 0 0]) (by kernel_rfl) rfl) rfl ?_
            intro g46 w47 hS a hA
            refine seq_store (us := [.bool (rb (pwR u v (i + 1 + 1)).1.num), .slice p42_1 ((words (pwR u v (i + 1 + 1)).1.num.natAbs).length) p42_c1, .slice p42_2 ((words (pwR u v (i + 1 + 1)).1.den).length) p42_c2, .bool (rb (pwR u v (i + 1 + 1)).2.num), .slice p42_3 ((words (pwR u v (i + 1 + 1)).2.num.natAbs).length) p42_c3, .slice p42_4 ((words (pwR u v (i + 1 + 1)).2.den).length) p42_c4]) hA hS rfl rfl (sets_store (cs := [.bool (rb (pwR u v (i + 1 + 1)).1.num), .slice p42_1 ((words (pwR u v (i + 1 + 1)).1.num.natAbs).length) p42_c1, .slice p42_2 ((words (pwR u v (i + 1 + 1)).1.den).length) p42_c2, .bool (rb (pwR u v (i + 1 + 1)).2.num), .slice p42_3 ((words (pwR u v (i + 1 + 1)).2.num.natAbs).length) p42_c3, .slice p42_4 ((words (pwR u v (i + 1 + 1)).2.den).length) p42_c4]) rfl rfl rfl (by kernel_rfl) hS 0 rfl rfl rfl) 0 rfl rfl rfl rfl ?_
            intro w48 hS
            refine seq_do hA rfl rfl rfl (does_assign rfl) ?_
            intro a hA
            refine seq_end ?_
            refine hK40 _ _ ?_
            refine wp_seq_k (fun K49 hK49 => ?_)
            refine wp_seq_k (fun K50 hK50 => ?_)
            refine wp_region_lit ?_
            refine seq_do hA rfl rfl rfl (does_move rfl) ?_
            intro a hA
            refine seq_do (v := .bool false) hA rfl rfl rfl (does_bin rfl rfl (fun w => by kernel_rfl)) ?_
            intro a hA
            refine seq_end ?_
            refine hK50 _ _ ?_
            refine wp_cond_false (hA.ev rfl) ?_
            refine wp_skip ?_
            refine hK49 _ _ ?_
            refine wp_region_lit ?_
            refine seq_do (v := .agg #[.bool (rb (pwR u v (i + 1 + 1)).1.num), .slice p42_1 ((words (pwR u v (i + 1 + 1)).1.num.natAbs).length) p42_c1, .slice p42_2 ((words (pwR u v (i + 1 + 1)).1.den).length) p42_c2, .bool (rb (pwR u v (i + 1 + 1)).2.num), .slice p42_3 ((words (pwR u v (i + 1 + 1)).2.num.natAbs).length) p42_c3, .slice p42_4 ((words (pwR u v (i + 1 + 1)).2.den).length) p42_c4]) hA rfl rfl rfl (does_loadS hS ExU_isS_26 rfl 0 rfl (cs := [.bool (rb (pwR u v (i + 1 + 1)).1.num), .slice p42_1 ((words (pwR u v (i + 1 + 1)).1.num.natAbs).length) p42_c1, .slice p42_2 ((words (pwR u v (i + 1 + 1)).1.den).length) p42_c2, .bool (rb (pwR u v (i + 1 + 1)).2.num), .slice p42_3 ((words (pwR u v (i + 1 + 1)).2.num.natAbs).length) p42_c3, .slice p42_4 ((words (pwR u v (i + 1 + 1)).2.den).length) p42_c4]) rfl rfl) ?_
            intro a hA
            refine seq_call hA rfl rfl rfl (enters_func  rfl rfl (fun w => by kernel_rfl)) (zspread_any (u := (pwR u v (i + 1 + 1)).1) (v := (pwR u v (i + 1 + 1)).2) (show Nm _ (Q6.rat (pwR u v (i + 1 + 1)).1 (pwR u v (i + 1 + 1)).2) p42_1 p42_c1 p42_2 p42_c2 p42_3 p42_c3 p42_4 p42_c4 from ⟨⟨(hS.rd 3 rfl), hn43.s1.nil, hn43.s1.cap⟩, ⟨(hS.rd 2 rfl), hn43.s2.nil, hn43.s2.cap⟩, ⟨(hS.rd 1 rfl), hn43.s3.nil, hn43.s3.cap⟩, ⟨(hS.rd 0 rfl), hn43.s4.nil, hn43.s4.cap⟩⟩) (fitB_ok hb41).1 (fitB_ok hb41).2) ?_
            rintro _ w56 ⟨p51_1, p51_c1, p51_2, p51_c2, p51_3, p51_c3, rfl, hs52, hs53, hs54, hb55⟩
            replace hS := hS.call hb55
            replace hS := hS.addR hs52.rd
            replace hS := hS.addR hs53.rd
            replace hS := hS.addR hs54.rd
            refine ⟨_, rfl, ?_⟩
            intro a hA
            refine seq_store (us := [.bool ((rb (spX (pwR u v (i + 1 + 1)).1 (pwR u v (i + 1 + 1)).2))), .slice p51_1 ((words (spX (pwR u v (i + 1 + 1)).1 (pwR u v (i + 1 + 1)).2).natAbs).length) p51_c1, .bool ((rb (spY (pwR u v (i + 1 + 1)).1 (pwR u v (i + 1 + 1)).2))), .slice p51_2 ((words (spY (pwR u v (i + 1 + 1)).1 (pwR u v (i + 1 + 1)).2).natAbs).length) p51_c2, .slice p51_3 ((words (spD (pwR u v (i + 1 + 1)).1 (pwR u v (i + 1 + 1)).2)).length) p51_c3]) hA hS rfl rfl (sets_store (cs := [.bool ((rb (spX (pwR u v (i + 1 + 1)).1 (pwR u v (i + 1 + 1)).2))), .slice p51_1 ((words (spX (pwR u v (i + 1 + 1)).1 (pwR u v (i + 1 + 1)).2).natAbs).length) p51_c1, .bool ((rb (spY (pwR u v (i + 1 + 1)).1 (pwR u v (i + 1 + 1)).2))), .slice p51_2 ((words (spY (pwR u v (i + 1 + 1)).1 (pwR u v (i + 1 + 1)).2).natAbs).length) p51_c2, .slice p51_3 ((words (spD (pwR u v (i + 1 + 1)).1 (pwR u v (i + 1 + 1)).2)).length) p51_c3]) rfl rfl rfl (by kernel_rfl) hS 1 rfl rfl rfl) 1 rfl rfl rfl rfl ?_
            intro w57 hS
            refine seq_end ?_
            refine hK18 _ _ ?_
            refine wp_region_lit ?_
            refine seq_do (v := .int .i64 (((i + 1 : Nat) : Int))) hA rfl rfl rfl (does_bin rfl rfl (fun w => (bin_add (i64In (by omega) (by omega)) w).trans (by rw [show (((i : Nat) : Int) + 1 : Int) = ((i + 1 : Nat) : Int) from by omega]))) ?_
            intro a hA
            refine seq_do hA rfl rfl rfl (does_move rfl) ?_
            intro a hA
            refine seq_end ?_
            refine hK13 _ _ _ (by omega) ⟨i + 1, spX (pwR u v (i + 1 + 1)).1 (pwR u v (i + 1 + 1)).2, spY (pwR u v (i + 1 + 1)).1 (pwR u v (i + 1 + 1)).2, spD (pwR u v (i + 1 + 1)).1 (pwR u v (i + 1 + 1)).2, p51_1, p51_c1, p51_2, p51_c2, p51_3, p51_c3, rfl, ⟨by omega, pwB_step hB9 (fitB_ok hb41).1 (fitB_ok hb41).2, ⟨spD_ne _ _, spX_mk _ _, spY_mk _ _, spX_len (fitB_ok hb41).1 (fitB_ok hb41).2, spY_len (fitB_ok hb41).1 (fitB_ok hb41).2, spD_len (fitB_ok hb41).1 (fitB_ok hb41).2⟩, ⟨hs52.nil, hs52.cap⟩, ⟨hs53.nil, hs53.cap⟩, ⟨hs54.nil, hs54.cap⟩⟩, hA.keep _ ⟨rfl, rfl, rfl, rfl, rfl, rfl, rfl, rfl, rfl, trivial⟩, ((hS.pickR [(p51_1, words (spX (pwR u v (i + 1 + 1)).1 (pwR u v (i + 1 + 1)).2).natAbs), (p51_2, words (spY (pwR u v (i + 1 + 1)).1 (pwR u v (i + 1 + 1)).2).natAbs), (p51_3, words (spD (pwR u v (i + 1 + 1)).1 (pwR u v (i + 1 + 1)).2)), (a3, words d), (a2, words y.natAbs), (a1, words x.natAbs)] ⟨⟨2, rfl⟩, ⟨⟨1, rfl⟩, ⟨⟨0, rfl⟩, ⟨⟨13, rfl⟩, ⟨⟨14, rfl⟩, ⟨⟨15, rfl⟩, trivial⟩⟩⟩⟩⟩⟩).subL _ (.cons _ (.cons_cons _ (.cons_cons _ (.cons_cons _ .slnil)))))⟩
          · refine seq_call hA rfl rfl rfl (enters_func  rfl rfl (fun w => by kernel_rfl)) (zsettle_as ⟨(hS.rd 2 rfl), hs21.nil, hs21.cap⟩ ⟨(hS.rd 1 rfl), hs22.nil, hs22.cap⟩ ⟨(hS.rd 0 rfl), hs23.nil, hs23.cap⟩ ((set_pw (Nat.mul_ne_zero hD9 hd) hS9.1 hS9.2).trans (ratS_no (fitB_no hb41))) (by omega) (by omega) (by omega) (Nat.mul_ne_zero hD9 hd)) ?_
            rintro _ w61 ⟨p58_1, p58_c1, p58_2, p58_c2, p58_3, p58_c3, p58_4, p58_c4, rfl, hn59, hb60⟩
            replace hS := hS.call hb60
            replace hS := hS.addR hn59.s1.rd
            replace hS := hS.addR hn59.s2.rd
            replace hS := hS.addR hn59.s3.rd
            replace hS := hS.addR hn59.s4.rd
            refine ⟨_, rfl, ?_⟩
            intro a hA
            refine seq_do hA rfl rfl rfl (does_move rfl) ?_
            intro a hA
            refine seq_do (v := .agg #[.bool false, .slice p58_1 0 p58_c1, .slice p58_2 0 p58_c2, .bool false, .slice p58_3 0 p58_c3, .slice p58_4 0 p58_c4]) hA rfl rfl rfl (does_extract (vs := [.agg #[.bool false, .slice p58_1 0 p58_c1, .slice p58_2 0 p58_c2, .bool false, .slice p58_3 0 p58_c3, .slice p58_4 0 p58_c4], .int .i64 4]) rfl rfl) ?_
            intro a hA
            refine seq_do (v := .int .i64 4) hA rfl rfl rfl (does_extract (vs := [.agg #[.bool false, .slice p58_1 0 p58_c1, .slice p58_2 0 p58_c2, .bool false, .slice p58_3 0 p58_c3, .slice p58_4 0 p58_c4], .int .i64 4]) rfl rfl) ?_
            intro a hA
            refine seq_new (vs := [.bool false, .slice none 0 0, .slice none 0 0, .bool false, .slice none 0 0, .slice none 0 0]) (t := 26) hA hS rfl rfl rfl (fun g => .pointer (some ⟨g, 0, none⟩)) (does_alloc (z := .agg #[.bool false, .slice none 0 0, .slice none 0 0, .bool false, .slice none 0 0, .slice none 0 0]) (by kernel_rfl) rfl) rfl ?_
            intro g62 w63 hS a hA
            refine seq_store (us := [.bool false, .slice p58_1 0 p58_c1, .slice p58_2 0 p58_c2, .bool false, .slice p58_3 0 p58_c3, .slice p58_4 0 p58_c4]) hA hS rfl rfl (sets_store (cs := [.bool false, .slice p58_1 0 p58_c1, .slice p58_2 0 p58_c2, .bool false, .slice p58_3 0 p58_c3, .slice p58_4 0 p58_c4]) rfl rfl rfl (by kernel_rfl) hS 0 rfl rfl rfl) 0 rfl rfl rfl rfl ?_
            intro w64 hS
            refine seq_do hA rfl rfl rfl (does_assign rfl) ?_
            intro a hA
            refine seq_end ?_
            refine hK40 _ _ ?_
            refine wp_seq_k (fun K65 hK65 => ?_)
            refine wp_seq_k (fun K66 hK66 => ?_)
            refine wp_region_lit ?_
            refine seq_do hA rfl rfl rfl (does_move rfl) ?_
            intro a hA
            refine seq_do (v := .bool true) hA rfl rfl rfl (does_bin rfl rfl (fun w => by kernel_rfl)) ?_
            intro a hA
            refine seq_end ?_
            refine hK66 _ _ ?_
            refine wp_cond_true (hA.ev rfl) ?_
            refine wp_seq_k (fun K67 hK67 => ?_)
            refine wp_region_lit ?_
            refine seq_do (v := .agg #[.bool false, .slice none 0 0, .bool false, .slice none 0 0, .slice none 0 0]) hA rfl rfl rfl (does_build rfl (fun w => by kernel_rfl)) ?_
            intro a hA
            refine seq_do hA rfl rfl rfl (does_move rfl) ?_
            intro a hA
            refine seq_store (us := [.bool false, .slice none 0 0, .bool false, .slice none 0 0, .slice none 0 0]) hA hS rfl rfl (sets_store (cs := [.bool false, .slice none 0 0, .bool false, .slice none 0 0, .slice none 0 0]) rfl rfl rfl (by kernel_rfl) hS 2 rfl rfl rfl) 2 rfl rfl rfl rfl ?_
            intro w68 hS
            refine seq_do hA rfl rfl rfl (does_assign rfl) ?_
            intro a hA
            refine seq_end ?_
            refine hK67 _ _ ?_
            refine wp_ret ?_
            refine hret _ _ ?_
            refine ends (v := .tuple #[.agg #[.bool false, .slice none 0 0, .bool false, .slice none 0 0, .slice none 0 0], .int .i64 4]) hA rfl (.cons (res_cell hS ExU_isS_48 rfl 2 rfl (cs := [.bool false, .slice none 0 0, .bool false, .slice none 0 0, .slice none 0 0]) rfl rfl) (.cons (res_tmp rfl) .nil)) rfl ?_
            exact .inr ⟨pwB_stop (k := i + 1 + 1) (by omega) (fitB_no hb41), rfl, hS.bel⟩
      · have hb32' := of_decide_eq_false hb32
        refine seq_call hA rfl rfl rfl (enters_func  rfl rfl (fun w => by kernel_rfl)) (soundB_any _ (hS.rd 1 rfl) (by omega) hb32) ?_
        rintro _ w70 ⟨rfl, hb69⟩
        replace hb69 := below_eq hb69
        replace hS := hS.call hb69
        refine ⟨_, rfl, ?_⟩
        intro a hA
        refine seq_do (v := .bool false) hA rfl rfl rfl (does_pick rfl rfl rfl rfl) ?_
        intro a hA
        refine seq_do hA rfl rfl rfl (does_move rfl) ?_
        intro a hA
        refine seq_skip hA rfl rfl rfl ?_
        intro a hA
        refine seq_skip hA rfl rfl rfl ?_
        intro a hA
        refine seq_skip hA rfl rfl rfl ?_
        intro a hA
        refine seq_do (v := .bool false) hA rfl rfl rfl (does_pick rfl rfl rfl rfl) ?_
        intro a hA
        refine seq_end ?_
        refine hK28 _ _ ?_
        refine wp_cond_false (hA.ev rfl) ?_
        refine wp_skip ?_
        refine hK27 _ _ ?_
        refine wp_seq_k (fun K71 hK71 => ?_)
        refine wp_region_lit ?_
        refine seq_do (v := .agg #[.bool ((rb (X * x + -(Y * y)))), .slice p20_1 ((words (X * x + -(Y * y)).natAbs).length) p20_c1, .bool ((rb (X * y + Y * x))), .slice p20_2 ((words (X * y + Y * x).natAbs).length) p20_c2, .slice p20_3 ((words (D * d)).length) p20_c3]) hA rfl rfl rfl (does_loadS hS ExU_isS_48 rfl 0 rfl (cs := [.bool ((rb (X * x + -(Y * y)))), .slice p20_1 ((words (X * x + -(Y * y)).natAbs).length) p20_c1, .bool ((rb (X * y + Y * x))), .slice p20_2 ((words (X * y + Y * x).natAbs).length) p20_c2, .slice p20_3 ((words (D * d)).length) p20_c3]) rfl rfl) ?_
        intro a hA
        rcases Bool.eq_false_or_eq_true (fitB (pwR u v (i + 1 + 1))) with hb72 | hb72
        · refine seq_call hA rfl rfl rfl (enters_func  rfl rfl (fun w => by kernel_rfl)) (zsettle_as ⟨(hS.rd 2 rfl), hs21.nil, hs21.cap⟩ ⟨(hS.rd 1 rfl), hs22.nil, hs22.cap⟩ ⟨(hS.rd 0 rfl), hs23.nil, hs23.cap⟩ ((set_pw (Nat.mul_ne_zero hD9 hd) hS9.1 hS9.2).trans (ratS_fit (fitB_ok hb72).1 (fitB_ok hb72).2)) (by omega) (by omega) (by omega) (Nat.mul_ne_zero hD9 hd)) ?_
          rintro _ w76 ⟨p73_1, p73_c1, p73_2, p73_c2, p73_3, p73_c3, p73_4, p73_c4, rfl, hn74, hb75⟩
          replace hS := hS.call hb75
          replace hS := hS.addR hn74.s1.rd
          replace hS := hS.addR hn74.s2.rd
          replace hS := hS.addR hn74.s3.rd
          replace hS := hS.addR hn74.s4.rd
          refine ⟨_, rfl, ?_⟩
          intro a hA
          refine seq_do hA rfl rfl rfl (does_move rfl) ?_
          intro a hA
          refine seq_do (v := .agg #[.bool (rb (pwR u v (i + 1 + 1)).1.num), .slice p73_1 ((words (pwR u v (i + 1 + 1)).1.num.natAbs).length) p73_c1, .slice p73_2 ((words (pwR u v (i + 1 + 1)).1.den).length) p73_c2, .bool (rb (pwR u v (i + 1 + 1)).2.num), .slice p73_3 ((words (pwR u v (i + 1 + 1)).2.num.natAbs).length) p73_c3, .slice p73_4 ((words (pwR u v (i + 1 + 1)).2.den).length) p73_c4]) hA rfl rfl rfl (does_extract (vs := [.agg #[.bool (rb (pwR u v (i + 1 + 1)).1.num), .slice p73_1 ((words (pwR u v (i + 1 + 1)).1.num.natAbs).length) p73_c1, .slice p73_2 ((words (pwR u v (i + 1 + 1)).1.den).length) p73_c2, .bool (rb (pwR u v (i + 1 + 1)).2.num), .slice p73_3 ((words (pwR u v (i + 1 + 1)).2.num.natAbs).length) p73_c3, .slice p73_4 ((words (pwR u v (i + 1 + 1)).2.den).length) p73_c4], .int .i64 0]) rfl rfl) ?_
          intro a hA
          refine seq_do (v := .int .i64 0) hA rfl rfl rfl (does_extract (vs := [.agg #[.bool (rb (pwR u v (i + 1 + 1)).1.num), .slice p73_1 ((words (pwR u v (i + 1 + 1)).1.num.natAbs).length) p73_c1, .slice p73_2 ((words (pwR u v (i + 1 + 1)).1.den).length) p73_c2, .bool (rb (pwR u v (i + 1 + 1)).2.num), .slice p73_3 ((words (pwR u v (i + 1 + 1)).2.num.natAbs).length) p73_c3, .slice p73_4 ((words (pwR u v (i + 1 + 1)).2.den).length) p73_c4], .int .i64 0]) rfl rfl) ?_
          intro a hA
          refine seq_new (vs := [.bool false, .slice none 0 0, .slice none 0 0, .bool false, .slice none 0 0, .slice none 0 0]) (t := 26) hA hS rfl rfl rfl (fun g => .pointer (some ⟨g, 0, none⟩)) (does_alloc (z := .agg #[.bool false, .slice none 0 0, .slice none 0 0, .bool false, .slice none 0 0, .slice none 0 0]) (by kernel_rfl) rfl) rfl ?_
          intro g77 w78 hS a hA
          refine seq_store (us := [.bool (rb (pwR u v (i + 1 + 1)).1.num), .slice p73_1 ((words (pwR u v (i + 1 + 1)).1.num.natAbs).length) p73_c1, .slice p73_2 ((words (pwR u v (i + 1 + 1)).1.den).length) p73_c2, .bool (rb (pwR u v (i + 1 + 1)).2.num), .slice p73_3 ((words (pwR u v (i + 1 + 1)).2.num.natAbs).length) p73_c3, .slice p73_4 ((words (pwR u v (i + 1 + 1)).2.den).length) p73_c4]) hA hS rfl rfl (sets_store (cs := [.bool (rb (pwR u v (i + 1 + 1)).1.num), .slice p73_1 ((words (pwR u v (i + 1 + 1)).1.num.natAbs).length) p73_c1, .slice p73_2 ((words (pwR u v (i + 1 + 1)).1.den).length) p73_c2, .bool (rb (pwR u v (i + 1 + 1)).2.num), .slice p73_3 ((words (pwR u v (i + 1 + 1)).2.num.natAbs).length) p73_c3, .slice p73_4 ((words (pwR u v (i + 1 + 1)).2.den).length) p73_c4]) rfl rfl rfl (by kernel_rfl) hS 0 rfl rfl rfl) 0 rfl rfl rfl rfl ?_
          intro w79 hS
          refine seq_do hA rfl rfl rfl (does_assign rfl) ?_
          intro a hA
          refine seq_end ?_
          refine hK71 _ _ ?_
          refine wp_seq_k (fun K80 hK80 => ?_)
          refine wp_seq_k (fun K81 hK81 => ?_)
          refine wp_region_lit ?_
          refine seq_do hA rfl rfl rfl (does_move rfl) ?_
          intro a hA
          refine seq_do (v := .bool false) hA rfl rfl rfl (does_bin rfl rfl (fun w => by kernel_rfl)) ?_
          intro a hA
          refine seq_end ?_
          refine hK81 _ _ ?_
          refine wp_cond_false (hA.ev rfl) ?_
          refine wp_skip ?_
          refine hK80 _ _ ?_
          refine wp_region_lit ?_
          refine seq_do (v := .agg #[.bool (rb (pwR u v (i + 1 + 1)).1.num), .slice p73_1 ((words (pwR u v (i + 1 + 1)).1.num.natAbs).length) p73_c1, .slice p73_2 ((words (pwR u v (i + 1 + 1)).1.den).length) p73_c2, .bool (rb (pwR u v (i + 1 + 1)).2.num), .slice p73_3 ((words (pwR u v (i + 1 + 1)).2.num.natAbs).length) p73_c3, .slice p73_4 ((words (pwR u v (i + 1 + 1)).2.den).length) p73_c4]) hA rfl rfl rfl (does_loadS hS ExU_isS_26 rfl 0 rfl (cs := [.bool (rb (pwR u v (i + 1 + 1)).1.num), .slice p73_1 ((words (pwR u v (i + 1 + 1)).1.num.natAbs).length) p73_c1, .slice p73_2 ((words (pwR u v (i + 1 + 1)).1.den).length) p73_c2, .bool (rb (pwR u v (i + 1 + 1)).2.num), .slice p73_3 ((words (pwR u v (i + 1 + 1)).2.num.natAbs).length) p73_c3, .slice p73_4 ((words (pwR u v (i + 1 + 1)).2.den).length) p73_c4]) rfl rfl) ?_
          intro a hA
          refine seq_call hA rfl rfl rfl (enters_func  rfl rfl (fun w => by kernel_rfl)) (zspread_any (u := (pwR u v (i + 1 + 1)).1) (v := (pwR u v (i + 1 + 1)).2) (show Nm _ (Q6.rat (pwR u v (i + 1 + 1)).1 (pwR u v (i + 1 + 1)).2) p73_1 p73_c1 p73_2 p73_c2 p73_3 p73_c3 p73_4 p73_c4 from ⟨⟨(hS.rd 3 rfl), hn74.s1.nil, hn74.s1.cap⟩, ⟨(hS.rd 2 rfl), hn74.s2.nil, hn74.s2.cap⟩, ⟨(hS.rd 1 rfl), hn74.s3.nil, hn74.s3.cap⟩, ⟨(hS.rd 0 rfl), hn74.s4.nil, hn74.s4.cap⟩⟩) (fitB_ok hb72).1 (fitB_ok hb72).2) ?_
          rintro _ w87 ⟨p82_1, p82_c1, p82_2, p82_c2, p82_3, p82_c3, rfl, hs83, hs84, hs85, hb86⟩
          replace hS := hS.call hb86
          replace hS := hS.addR hs83.rd
          replace hS := hS.addR hs84.rd
          replace hS := hS.addR hs85.rd
          refine ⟨_, rfl, ?_⟩
          intro a hA
          refine seq_store (us := [.bool ((rb (spX (pwR u v (i + 1 + 1)).1 (pwR u v (i + 1 + 1)).2))), .slice p82_1 ((words (spX (pwR u v (i + 1 + 1)).1 (pwR u v (i + 1 + 1)).2).natAbs).length) p82_c1, .bool ((rb (spY (pwR u v (i + 1 + 1)).1 (pwR u v (i + 1 + 1)).2))), .slice p82_2 ((words (spY (pwR u v (i + 1 + 1)).1 (pwR u v (i + 1 + 1)).2).natAbs).length) p82_c2, .slice p82_3 ((words (spD (pwR u v (i + 1 + 1)).1 (pwR u v (i + 1 + 1)).2)).length) p82_c3]) hA hS rfl rfl (sets_store (cs := [.bool ((rb (spX (pwR u v (i + 1 + 1)).1 (pwR u v (i + 1 + 1)).2))), .slice p82_1 ((words (spX (pwR u v (i + 1 + 1)).1 (pwR u v (i + 1 + 1)).2).natAbs).length) p82_c1, .bool ((rb (spY (pwR u v (i + 1 + 1)).1 (pwR u v (i + 1 + 1)).2))), .slice p82_2 ((words (spY (pwR u v (i + 1 + 1)).1 (pwR u v (i + 1 + 1)).2).natAbs).length) p82_c2, .slice p82_3 ((words (spD (pwR u v (i + 1 + 1)).1 (pwR u v (i + 1 + 1)).2)).length) p82_c3]) rfl rfl rfl (by kernel_rfl) hS 1 rfl rfl rfl) 1 rfl rfl rfl rfl ?_
          intro w88 hS
          refine seq_end ?_
          refine hK18 _ _ ?_
          refine wp_region_lit ?_
          refine seq_do (v := .int .i64 (((i + 1 : Nat) : Int))) hA rfl rfl rfl (does_bin rfl rfl (fun w => (bin_add (i64In (by omega) (by omega)) w).trans (by rw [show (((i : Nat) : Int) + 1 : Int) = ((i + 1 : Nat) : Int) from by omega]))) ?_
          intro a hA
          refine seq_do hA rfl rfl rfl (does_move rfl) ?_
          intro a hA
          refine seq_end ?_
          refine hK13 _ _ _ (by omega) ⟨i + 1, spX (pwR u v (i + 1 + 1)).1 (pwR u v (i + 1 + 1)).2, spY (pwR u v (i + 1 + 1)).1 (pwR u v (i + 1 + 1)).2, spD (pwR u v (i + 1 + 1)).1 (pwR u v (i + 1 + 1)).2, p82_1, p82_c1, p82_2, p82_c2, p82_3, p82_c3, rfl, ⟨by omega, pwB_step hB9 (fitB_ok hb72).1 (fitB_ok hb72).2, ⟨spD_ne _ _, spX_mk _ _, spY_mk _ _, spX_len (fitB_ok hb72).1 (fitB_ok hb72).2, spY_len (fitB_ok hb72).1 (fitB_ok hb72).2, spD_len (fitB_ok hb72).1 (fitB_ok hb72).2⟩, ⟨hs83.nil, hs83.cap⟩, ⟨hs84.nil, hs84.cap⟩, ⟨hs85.nil, hs85.cap⟩⟩, hA.keep _ ⟨rfl, rfl, rfl, rfl, rfl, rfl, rfl, rfl, rfl, trivial⟩, ((hS.pickR [(p82_1, words (spX (pwR u v (i + 1 + 1)).1 (pwR u v (i + 1 + 1)).2).natAbs), (p82_2, words (spY (pwR u v (i + 1 + 1)).1 (pwR u v (i + 1 + 1)).2).natAbs), (p82_3, words (spD (pwR u v (i + 1 + 1)).1 (pwR u v (i + 1 + 1)).2)), (a3, words d), (a2, words y.natAbs), (a1, words x.natAbs)] ⟨⟨2, rfl⟩, ⟨⟨1, rfl⟩, ⟨⟨0, rfl⟩, ⟨⟨13, rfl⟩, ⟨⟨14, rfl⟩, ⟨⟨15, rfl⟩, trivial⟩⟩⟩⟩⟩⟩).subL _ (.cons _ (.cons_cons _ (.cons_cons _ (.cons_cons _ .slnil)))))⟩
        · refine seq_call hA rfl rfl rfl (enters_func  rfl rfl (fun w => by kernel_rfl)) (zsettle_as ⟨(hS.rd 2 rfl), hs21.nil, hs21.cap⟩ ⟨(hS.rd 1 rfl), hs22.nil, hs22.cap⟩ ⟨(hS.rd 0 rfl), hs23.nil, hs23.cap⟩ ((set_pw (Nat.mul_ne_zero hD9 hd) hS9.1 hS9.2).trans (ratS_no (fitB_no hb72))) (by omega) (by omega) (by omega) (Nat.mul_ne_zero hD9 hd)) ?_
          rintro _ w92 ⟨p89_1, p89_c1, p89_2, p89_c2, p89_3, p89_c3, p89_4, p89_c4, rfl, hn90, hb91⟩
          replace hS := hS.call hb91
          replace hS := hS.addR hn90.s1.rd
          replace hS := hS.addR hn90.s2.rd
          replace hS := hS.addR hn90.s3.rd
          replace hS := hS.addR hn90.s4.rd
          refine ⟨_, rfl, ?_⟩
          intro a hA
          refine seq_do hA rfl rfl rfl (does_move rfl) ?_
          intro a hA
          refine seq_do (v := .agg #[.bool false, .slice p89_1 0 p89_c1, .slice p89_2 0 p89_c2, .bool false, .slice p89_3 0 p89_c3, .slice p89_4 0 p89_c4]) hA rfl rfl rfl (does_extract (vs := [.agg #[.bool false, .slice p89_1 0 p89_c1, .slice p89_2 0 p89_c2, .bool false, .slice p89_3 0 p89_c3, .slice p89_4 0 p89_c4], .int .i64 4]) rfl rfl) ?_
          intro a hA
          refine seq_do (v := .int .i64 4) hA rfl rfl rfl (does_extract (vs := [.agg #[.bool false, .slice p89_1 0 p89_c1, .slice p89_2 0 p89_c2, .bool false, .slice p89_3 0 p89_c3, .slice p89_4 0 p89_c4], .int .i64 4]) rfl rfl) ?_
          intro a hA
          refine seq_new (vs := [.bool false, .slice none 0 0, .slice none 0 0, .bool false, .slice none 0 0, .slice none 0 0]) (t := 26) hA hS rfl rfl rfl (fun g => .pointer (some ⟨g, 0, none⟩)) (does_alloc (z := .agg #[.bool false, .slice none 0 0, .slice none 0 0, .bool false, .slice none 0 0, .slice none 0 0]) (by kernel_rfl) rfl) rfl ?_
          intro g93 w94 hS a hA
          refine seq_store (us := [.bool false, .slice p89_1 0 p89_c1, .slice p89_2 0 p89_c2, .bool false, .slice p89_3 0 p89_c3, .slice p89_4 0 p89_c4]) hA hS rfl rfl (sets_store (cs := [.bool false, .slice p89_1 0 p89_c1, .slice p89_2 0 p89_c2, .bool false, .slice p89_3 0 p89_c3, .slice p89_4 0 p89_c4]) rfl rfl rfl (by kernel_rfl) hS 0 rfl rfl rfl) 0 rfl rfl rfl rfl ?_
          intro w95 hS
          refine seq_do hA rfl rfl rfl (does_assign rfl) ?_
          intro a hA
          refine seq_end ?_
          refine hK71 _ _ ?_
          refine wp_seq_k (fun K96 hK96 => ?_)
          refine wp_seq_k (fun K97 hK97 => ?_)
          refine wp_region_lit ?_
          refine seq_do hA rfl rfl rfl (does_move rfl) ?_
          intro a hA
          refine seq_do (v := .bool true) hA rfl rfl rfl (does_bin rfl rfl (fun w => by kernel_rfl)) ?_
          intro a hA
          refine seq_end ?_
          refine hK97 _ _ ?_
          refine wp_cond_true (hA.ev rfl) ?_
          refine wp_seq_k (fun K98 hK98 => ?_)
          refine wp_region_lit ?_
          refine seq_do (v := .agg #[.bool false, .slice none 0 0, .bool false, .slice none 0 0, .slice none 0 0]) hA rfl rfl rfl (does_build rfl (fun w => by kernel_rfl)) ?_
          intro a hA
          refine seq_do hA rfl rfl rfl (does_move rfl) ?_
          intro a hA
          refine seq_store (us := [.bool false, .slice none 0 0, .bool false, .slice none 0 0, .slice none 0 0]) hA hS rfl rfl (sets_store (cs := [.bool false, .slice none 0 0, .bool false, .slice none 0 0, .slice none 0 0]) rfl rfl rfl (by kernel_rfl) hS 2 rfl rfl rfl) 2 rfl rfl rfl rfl ?_
          intro w99 hS
          refine seq_do hA rfl rfl rfl (does_assign rfl) ?_
          intro a hA
          refine seq_end ?_
          refine hK98 _ _ ?_
          refine wp_ret ?_
          refine hret _ _ ?_
          refine ends (v := .tuple #[.agg #[.bool false, .slice none 0 0, .bool false, .slice none 0 0, .slice none 0 0], .int .i64 4]) hA rfl (.cons (res_cell hS ExU_isS_48 rfl 2 rfl (cs := [.bool false, .slice none 0 0, .bool false, .slice none 0 0, .slice none 0 0]) rfl rfl) (.cons (res_tmp rfl) .nil)) rfl ?_
          exact .inr ⟨pwB_stop (k := i + 1 + 1) (by omega) (fitB_no hb72), rfl, hS.bel⟩
    · have hb29' := of_decide_eq_false hb29
      refine seq_call hA rfl rfl rfl (enters_func  rfl rfl (fun w => by kernel_rfl)) (soundB_any _ (hS.rd 2 rfl) (by omega) hb29) ?_
      rintro _ w101 ⟨rfl, hb100⟩
      replace hb100 := below_eq hb100
      replace hS := hS.call hb100
      refine ⟨_, rfl, ?_⟩
      intro a hA
      refine seq_do hA rfl rfl rfl (does_move rfl) ?_
      intro a hA
      refine seq_skip hA rfl rfl rfl ?_
      intro a hA
      refine seq_skip hA rfl rfl rfl ?_
      intro a hA
      refine seq_skip hA rfl rfl rfl ?_
      intro a hA
      refine seq_skip hA rfl rfl rfl ?_
      intro a hA
      refine seq_do (v := .bool false) hA rfl rfl rfl (does_pick rfl rfl rfl rfl) ?_
      intro a hA
      refine seq_do hA rfl rfl rfl (does_move rfl) ?_
      intro a hA
      refine seq_skip hA rfl rfl rfl ?_
      intro a hA
      refine seq_skip hA rfl rfl rfl ?_
      intro a hA
      refine seq_skip hA rfl rfl rfl ?_
      intro a hA
      refine seq_do (v := .bool false) hA rfl rfl rfl (does_pick rfl rfl rfl rfl) ?_
      intro a hA
      refine seq_end ?_
      refine hK28 _ _ ?_
      refine wp_cond_false (hA.ev rfl) ?_
      refine wp_skip ?_
      refine hK27 _ _ ?_
      refine wp_seq_k (fun K102 hK102 => ?_)
      refine wp_region_lit ?_
      refine seq_do (v := .agg #[.bool ((rb (X * x + -(Y * y)))), .slice p20_1 ((words (X * x + -(Y * y)).natAbs).length) p20_c1, .bool ((rb (X * y + Y * x))), .slice p20_2 ((words (X * y + Y * x).natAbs).length) p20_c2, .slice p20_3 ((words (D * d)).length) p20_c3]) hA rfl rfl rfl (does_loadS hS ExU_isS_48 rfl 0 rfl (cs := [.bool ((rb (X * x + -(Y * y)))), .slice p20_1 ((words (X * x + -(Y * y)).natAbs).length) p20_c1, .bool ((rb (X * y + Y * x))), .slice p20_2 ((words (X * y + Y * x).natAbs).length) p20_c2, .slice p20_3 ((words (D * d)).length) p20_c3]) rfl rfl) ?_
      intro a hA
      rcases Bool.eq_false_or_eq_true (fitB (pwR u v (i + 1 + 1))) with hb103 | hb103
      · refine seq_call hA rfl rfl rfl (enters_func  rfl rfl (fun w => by kernel_rfl)) (zsettle_as ⟨(hS.rd 2 rfl), hs21.nil, hs21.cap⟩ ⟨(hS.rd 1 rfl), hs22.nil, hs22.cap⟩ ⟨(hS.rd 0 rfl), hs23.nil, hs23.cap⟩ ((set_pw (Nat.mul_ne_zero hD9 hd) hS9.1 hS9.2).trans (ratS_fit (fitB_ok hb103).1 (fitB_ok hb103).2)) (by omega) (by omega) (by omega) (Nat.mul_ne_zero hD9 hd)) ?_
        rintro _ w107 ⟨p104_1, p104_c1, p104_2, p104_c2, p104_3, p104_c3, p104_4, p104_c4, rfl, hn105, hb106⟩
        replace hS := hS.call hb106
        replace hS := hS.addR hn105.s1.rd
        replace hS := hS.addR hn105.s2.rd
        replace hS := hS.addR hn105.s3.rd
        replace hS := hS.addR hn105.s4.rd
        refine ⟨_, rfl, ?_⟩
        intro a hA
        refine seq_do hA rfl rfl rfl (does_move rfl) ?_
        intro a hA
        refine seq_do (v := .agg #[.bool (rb (pwR u v (i + 1 + 1)).1.num), .slice p104_1 ((words (pwR u v (i + 1 + 1)).1.num.natAbs).length) p104_c1, .slice p104_2 ((words (pwR u v (i + 1 + 1)).1.den).length) p104_c2, .bool (rb (pwR u v (i + 1 + 1)).2.num), .slice p104_3 ((words (pwR u v (i + 1 + 1)).2.num.natAbs).length) p104_c3, .slice p104_4 ((words (pwR u v (i + 1 + 1)).2.den).length) p104_c4]) hA rfl rfl rfl (does_extract (vs := [.agg #[.bool (rb (pwR u v (i + 1 + 1)).1.num), .slice p104_1 ((words (pwR u v (i + 1 + 1)).1.num.natAbs).length) p104_c1, .slice p104_2 ((words (pwR u v (i + 1 + 1)).1.den).length) p104_c2, .bool (rb (pwR u v (i + 1 + 1)).2.num), .slice p104_3 ((words (pwR u v (i + 1 + 1)).2.num.natAbs).length) p104_c3, .slice p104_4 ((words (pwR u v (i + 1 + 1)).2.den).length) p104_c4], .int .i64 0]) rfl rfl) ?_
        intro a hA
        refine seq_do (v := .int .i64 0) hA rfl rfl rfl (does_extract (vs := [.agg #[.bool (rb (pwR u v (i + 1 + 1)).1.num), .slice p104_1 ((words (pwR u v (i + 1 + 1)).1.num.natAbs).length) p104_c1, .slice p104_2 ((words (pwR u v (i + 1 + 1)).1.den).length) p104_c2, .bool (rb (pwR u v (i + 1 + 1)).2.num), .slice p104_3 ((words (pwR u v (i + 1 + 1)).2.num.natAbs).length) p104_c3, .slice p104_4 ((words (pwR u v (i + 1 + 1)).2.den).length) p104_c4], .int .i64 0]) rfl rfl) ?_
        intro a hA
        refine seq_new (vs := [.bool false, .slice none 0 0, .slice none 0 0, .bool false, .slice none 0 0, .slice none 0 0]) (t := 26) hA hS rfl rfl rfl (fun g => .pointer (some ⟨g, 0, none⟩)) (does_alloc (z := .agg #[.bool false, .slice none 0 0, .slice none 0 0, .bool false, .slice none 0 0, .slice none 0 0]) (by kernel_rfl) rfl) rfl ?_
        intro g108 w109 hS a hA
        refine seq_store (us := [.bool (rb (pwR u v (i + 1 + 1)).1.num), .slice p104_1 ((words (pwR u v (i + 1 + 1)).1.num.natAbs).length) p104_c1, .slice p104_2 ((words (pwR u v (i + 1 + 1)).1.den).length) p104_c2, .bool (rb (pwR u v (i + 1 + 1)).2.num), .slice p104_3 ((words (pwR u v (i + 1 + 1)).2.num.natAbs).length) p104_c3, .slice p104_4 ((words (pwR u v (i + 1 + 1)).2.den).length) p104_c4]) hA hS rfl rfl (sets_store (cs := [.bool (rb (pwR u v (i + 1 + 1)).1.num), .slice p104_1 ((words (pwR u v (i + 1 + 1)).1.num.natAbs).length) p104_c1, .slice p104_2 ((words (pwR u v (i + 1 + 1)).1.den).length) p104_c2, .bool (rb (pwR u v (i + 1 + 1)).2.num), .slice p104_3 ((words (pwR u v (i + 1 + 1)).2.num.natAbs).length) p104_c3, .slice p104_4 ((words (pwR u v (i + 1 + 1)).2.den).length) p104_c4]) rfl rfl rfl (by kernel_rfl) hS 0 rfl rfl rfl) 0 rfl rfl rfl rfl ?_
        intro w110 hS
        refine seq_do hA rfl rfl rfl (does_assign rfl) ?_
        intro a hA
        refine seq_end ?_
        refine hK102 _ _ ?_
        refine wp_seq_k (fun K111 hK111 => ?_)
        refine wp_seq_k (fun K112 hK112 => ?_)
        refine wp_region_lit ?_
        refine seq_do hA rfl rfl rfl (does_move rfl) ?_
        intro a hA
        refine seq_do (v := .bool false) hA rfl rfl rfl (does_bin rfl rfl (fun w => by kernel_rfl)) ?_
        intro a hA
        refine seq_end ?_
        refine hK112 _ _ ?_
        refine wp_cond_false (hA.ev rfl) ?_
        refine wp_skip ?_
        refine hK111 _ _ ?_
        refine wp_region_lit ?_
        refine seq_do (v := .agg #[.bool (rb (pwR u v (i + 1 + 1)).1.num), .slice p104_1 ((words (pwR u v (i + 1 + 1)).1.num.natAbs).length) p104_c1, .slice p104_2 ((words (pwR u v (i + 1 + 1)).1.den).length) p104_c2, .bool (rb (pwR u v (i + 1 + 1)).2.num), .slice p104_3 ((words (pwR u v (i + 1 + 1)).2.num.natAbs).length) p104_c3, .slice p104_4 ((words (pwR u v (i + 1 + 1)).2.den).length) p104_c4]) hA rfl rfl rfl (does_loadS hS ExU_isS_26 rfl 0 rfl (cs := [.bool (rb (pwR u v (i + 1 + 1)).1.num), .slice p104_1 ((words (pwR u v (i + 1 + 1)).1.num.natAbs).length) p104_c1, .slice p104_2 ((words (pwR u v (i + 1 + 1)).1.den).length) p104_c2, .bool (rb (pwR u v (i + 1 + 1)).2.num), .slice p104_3 ((words (pwR u v (i + 1 + 1)).2.num.natAbs).length) p104_c3, .slice p104_4 ((words (pwR u v (i + 1 + 1)).2.den).length) p104_c4]) rfl rfl) ?_
        intro a hA
        refine seq_call hA rfl rfl rfl (enters_func  rfl rfl (fun w => by kernel_rfl)) (zspread_any (u := (pwR u v (i + 1 + 1)).1) (v := (pwR u v (i + 1 + 1)).2) (show Nm _ (Q6.rat (pwR u v (i + 1 + 1)).1 (pwR u v (i + 1 + 1)).2) p104_1 p104_c1 p104_2 p104_c2 p104_3 p104_c3 p104_4 p104_c4 from ⟨⟨(hS.rd 3 rfl), hn105.s1.nil, hn105.s1.cap⟩, ⟨(hS.rd 2 rfl), hn105.s2.nil, hn105.s2.cap⟩, ⟨(hS.rd 1 rfl), hn105.s3.nil, hn105.s3.cap⟩, ⟨(hS.rd 0 rfl), hn105.s4.nil, hn105.s4.cap⟩⟩) (fitB_ok hb103).1 (fitB_ok hb103).2) ?_
        rintro _ w118 ⟨p113_1, p113_c1, p113_2, p113_c2, p113_3, p113_c3, rfl, hs114, hs115, hs116, hb117⟩
        replace hS := hS.call hb117
        replace hS := hS.addR hs114.rd
        replace hS := hS.addR hs115.rd
        replace hS := hS.addR hs116.rd
        refine ⟨_, rfl, ?_⟩
        intro a hA
        refine seq_store (us := [.bool ((rb (spX (pwR u v (i + 1 + 1)).1 (pwR u v (i + 1 + 1)).2))), .slice p113_1 ((words (spX (pwR u v (i + 1 + 1)).1 (pwR u v (i + 1 + 1)).2).natAbs).length) p113_c1, .bool ((rb (spY (pwR u v (i + 1 + 1)).1 (pwR u v (i + 1 + 1)).2))), .slice p113_2 ((words (spY (pwR u v (i + 1 + 1)).1 (pwR u v (i + 1 + 1)).2).natAbs).length) p113_c2, .slice p113_3 ((words (spD (pwR u v (i + 1 + 1)).1 (pwR u v (i + 1 + 1)).2)).length) p113_c3]) hA hS rfl rfl (sets_store (cs := [.bool ((rb (spX (pwR u v (i + 1 + 1)).1 (pwR u v (i + 1 + 1)).2))), .slice p113_1 ((words (spX (pwR u v (i + 1 + 1)).1 (pwR u v (i + 1 + 1)).2).natAbs).length) p113_c1, .bool ((rb (spY (pwR u v (i + 1 + 1)).1 (pwR u v (i + 1 + 1)).2))), .slice p113_2 ((words (spY (pwR u v (i + 1 + 1)).1 (pwR u v (i + 1 + 1)).2).natAbs).length) p113_c2, .slice p113_3 ((words (spD (pwR u v (i + 1 + 1)).1 (pwR u v (i + 1 + 1)).2)).length) p113_c3]) rfl rfl rfl (by kernel_rfl) hS 1 rfl rfl rfl) 1 rfl rfl rfl rfl ?_
        intro w119 hS
        refine seq_end ?_
        refine hK18 _ _ ?_
        refine wp_region_lit ?_
        refine seq_do (v := .int .i64 (((i + 1 : Nat) : Int))) hA rfl rfl rfl (does_bin rfl rfl (fun w => (bin_add (i64In (by omega) (by omega)) w).trans (by rw [show (((i : Nat) : Int) + 1 : Int) = ((i + 1 : Nat) : Int) from by omega]))) ?_
        intro a hA
        refine seq_do hA rfl rfl rfl (does_move rfl) ?_
        intro a hA
        refine seq_end ?_
        refine hK13 _ _ _ (by omega) ⟨i + 1, spX (pwR u v (i + 1 + 1)).1 (pwR u v (i + 1 + 1)).2, spY (pwR u v (i + 1 + 1)).1 (pwR u v (i + 1 + 1)).2, spD (pwR u v (i + 1 + 1)).1 (pwR u v (i + 1 + 1)).2, p113_1, p113_c1, p113_2, p113_c2, p113_3, p113_c3, rfl, ⟨by omega, pwB_step hB9 (fitB_ok hb103).1 (fitB_ok hb103).2, ⟨spD_ne _ _, spX_mk _ _, spY_mk _ _, spX_len (fitB_ok hb103).1 (fitB_ok hb103).2, spY_len (fitB_ok hb103).1 (fitB_ok hb103).2, spD_len (fitB_ok hb103).1 (fitB_ok hb103).2⟩, ⟨hs114.nil, hs114.cap⟩, ⟨hs115.nil, hs115.cap⟩, ⟨hs116.nil, hs116.cap⟩⟩, hA.keep _ ⟨rfl, rfl, rfl, rfl, rfl, rfl, rfl, rfl, rfl, trivial⟩, ((hS.pickR [(p113_1, words (spX (pwR u v (i + 1 + 1)).1 (pwR u v (i + 1 + 1)).2).natAbs), (p113_2, words (spY (pwR u v (i + 1 + 1)).1 (pwR u v (i + 1 + 1)).2).natAbs), (p113_3, words (spD (pwR u v (i + 1 + 1)).1 (pwR u v (i + 1 + 1)).2)), (a3, words d), (a2, words y.natAbs), (a1, words x.natAbs)] ⟨⟨2, rfl⟩, ⟨⟨1, rfl⟩, ⟨⟨0, rfl⟩, ⟨⟨13, rfl⟩, ⟨⟨14, rfl⟩, ⟨⟨15, rfl⟩, trivial⟩⟩⟩⟩⟩⟩).subL _ (.cons _ (.cons_cons _ (.cons_cons _ (.cons_cons _ .slnil)))))⟩
      · refine seq_call hA rfl rfl rfl (enters_func  rfl rfl (fun w => by kernel_rfl)) (zsettle_as ⟨(hS.rd 2 rfl), hs21.nil, hs21.cap⟩ ⟨(hS.rd 1 rfl), hs22.nil, hs22.cap⟩ ⟨(hS.rd 0 rfl), hs23.nil, hs23.cap⟩ ((set_pw (Nat.mul_ne_zero hD9 hd) hS9.1 hS9.2).trans (ratS_no (fitB_no hb103))) (by omega) (by omega) (by omega) (Nat.mul_ne_zero hD9 hd)) ?_
        rintro _ w123 ⟨p120_1, p120_c1, p120_2, p120_c2, p120_3, p120_c3, p120_4, p120_c4, rfl, hn121, hb122⟩
        replace hS := hS.call hb122
        replace hS := hS.addR hn121.s1.rd
        replace hS := hS.addR hn121.s2.rd
        replace hS := hS.addR hn121.s3.rd
        replace hS := hS.addR hn121.s4.rd
        refine ⟨_, rfl, ?_⟩
        intro a hA
        refine seq_do hA rfl rfl rfl (does_move rfl) ?_
        intro a hA
        refine seq_do (v := .agg #[.bool false, .slice p120_1 0 p120_c1, .slice p120_2 0 p120_c2, .bool false, .slice p120_3 0 p120_c3, .slice p120_4 0 p120_c4]) hA rfl rfl rfl (does_extract (vs := [.agg #[.bool false, .slice p120_1 0 p120_c1, .slice p120_2 0 p120_c2, .bool false, .slice p120_3 0 p120_c3, .slice p120_4 0 p120_c4], .int .i64 4]) rfl rfl) ?_
        intro a hA
        refine seq_do (v := .int .i64 4) hA rfl rfl rfl (does_extract (vs := [.agg #[.bool false, .slice p120_1 0 p120_c1, .slice p120_2 0 p120_c2, .bool false, .slice p120_3 0 p120_c3, .slice p120_4 0 p120_c4], .int .i64 4]) rfl rfl) ?_
        intro a hA
        refine seq_new (vs := [.bool false, .slice none 0 0, .slice none 0 0, .bool false, .slice none 0 0, .slice none 0 0]) (t := 26) hA hS rfl rfl rfl (fun g => .pointer (some ⟨g, 0, none⟩)) (does_alloc (z := .agg #[.bool false, .slice none 0 0, .slice none 0 0, .bool false, .slice none 0 0, .slice none 0 0]) (by kernel_rfl) rfl) rfl ?_
        intro g124 w125 hS a hA
        refine seq_store (us := [.bool false, .slice p120_1 0 p120_c1, .slice p120_2 0 p120_c2, .bool false, .slice p120_3 0 p120_c3, .slice p120_4 0 p120_c4]) hA hS rfl rfl (sets_store (cs := [.bool false, .slice p120_1 0 p120_c1, .slice p120_2 0 p120_c2, .bool false, .slice p120_3 0 p120_c3, .slice p120_4 0 p120_c4]) rfl rfl rfl (by kernel_rfl) hS 0 rfl rfl rfl) 0 rfl rfl rfl rfl ?_
        intro w126 hS
        refine seq_do hA rfl rfl rfl (does_assign rfl) ?_
        intro a hA
        refine seq_end ?_
        refine hK102 _ _ ?_
        refine wp_seq_k (fun K127 hK127 => ?_)
        refine wp_seq_k (fun K128 hK128 => ?_)
        refine wp_region_lit ?_
        refine seq_do hA rfl rfl rfl (does_move rfl) ?_
        intro a hA
        refine seq_do (v := .bool true) hA rfl rfl rfl (does_bin rfl rfl (fun w => by kernel_rfl)) ?_
        intro a hA
        refine seq_end ?_
        refine hK128 _ _ ?_
        refine wp_cond_true (hA.ev rfl) ?_
        refine wp_seq_k (fun K129 hK129 => ?_)
        refine wp_region_lit ?_
        refine seq_do (v := .agg #[.bool false, .slice none 0 0, .bool false, .slice none 0 0, .slice none 0 0]) hA rfl rfl rfl (does_build rfl (fun w => by kernel_rfl)) ?_
        intro a hA
        refine seq_do hA rfl rfl rfl (does_move rfl) ?_
        intro a hA
        refine seq_store (us := [.bool false, .slice none 0 0, .bool false, .slice none 0 0, .slice none 0 0]) hA hS rfl rfl (sets_store (cs := [.bool false, .slice none 0 0, .bool false, .slice none 0 0, .slice none 0 0]) rfl rfl rfl (by kernel_rfl) hS 2 rfl rfl rfl) 2 rfl rfl rfl rfl ?_
        intro w130 hS
        refine seq_do hA rfl rfl rfl (does_assign rfl) ?_
        intro a hA
        refine seq_end ?_
        refine hK129 _ _ ?_
        refine wp_ret ?_
        refine hret _ _ ?_
        refine ends (v := .tuple #[.agg #[.bool false, .slice none 0 0, .bool false, .slice none 0 0, .slice none 0 0], .int .i64 4]) hA rfl (.cons (res_cell hS ExU_isS_48 rfl 2 rfl (cs := [.bool false, .slice none 0 0, .bool false, .slice none 0 0, .slice none 0 0]) rfl rfl) (.cons (res_tmp rfl) .nil)) rfl ?_
        exact .inr ⟨pwB_stop (k := i + 1 + 1) (by omega) (fitB_no hb103), rfl, hS.bel⟩
  · have hb16' := of_decide_eq_false hb16
    refine seq_do (v := .bool false) hA rfl rfl rfl (does_bin rfl rfl (fun w => (bin_lss w).trans (by rw [hb16]))) ?_
    intro a hA
    refine seq_end ?_
    refine hK15 _ _ ?_
    refine wp_seq_k (fun K131 hK131 => ?_)
    refine wp_cond_false (hA.ev rfl) ?_
    refine wp_exit ?_
    refine hK10 _ _ ?_
    refine wp_seq_k (fun K132 hK132 => ?_)
    refine wp_region_lit ?_
    refine seq_do (v := .agg #[.bool ((rb X)), .slice po1 ((words X.natAbs).length) poc1, .bool ((rb Y)), .slice po2 ((words Y.natAbs).length) poc2, .slice po3 ((words D).length) poc3]) hA rfl rfl rfl (does_loadS hS ExU_isS_48 rfl 0 rfl (cs := [.bool ((rb X)), .slice po1 ((words X.natAbs).length) poc1, .bool ((rb Y)), .slice po2 ((words Y.natAbs).length) poc2, .slice po3 ((words D).length) poc3]) rfl rfl) ?_
    intro a hA
    refine seq_store (us := [.bool ((rb X)), .slice po1 ((words X.natAbs).length) poc1, .bool ((rb Y)), .slice po2 ((words Y.natAbs).length) poc2, .slice po3 ((words D).length) poc3]) hA hS rfl rfl (sets_store (cs := [.bool ((rb X)), .slice po1 ((words X.natAbs).length) poc1, .bool ((rb Y)), .slice po2 ((words Y.natAbs).length) poc2, .slice po3 ((words D).length) poc3]) rfl rfl rfl (by kernel_rfl) hS 1 rfl rfl rfl) 1 rfl rfl rfl rfl ?_
    intro w133 hS
    refine seq_do hA rfl rfl rfl (does_assign rfl) ?_
    intro a hA
    refine seq_end ?_
    refine hK132 _ _ ?_
    refine wp_ret ?_
    refine hret _ _ ?_
    refine ends (v := .tuple #[.agg #[.bool ((rb X)), .slice po1 ((words X.natAbs).length) poc1, .bool ((rb Y)), .slice po2 ((words Y.natAbs).length) poc2, .slice po3 ((words D).length) poc3], .int .i64 0]) hA rfl (.cons (res_cell hS ExU_isS_48 rfl 1 rfl (cs := [.bool ((rb X)), .slice po1 ((words X.natAbs).length) poc1, .bool ((rb Y)), .slice po2 ((words Y.natAbs).length) poc2, .slice po3 ((words D).length) poc3]) rfl rfl) (.cons (res_tmp rfl) .nil)) rfl ?_
    obtain rfl : n = i + 1 := by omega
    exact .inl ⟨hB9, X, Y, D, ⟨hD9, hX9, hY9, lX9, lY9, lD9⟩, po1, poc1, po2, poc2, po3, poc3, rfl, ⟨(hS.rd 0 rfl), kn1.1, kn1.2⟩, ⟨(hS.rd 1 rfl), kn2.1, kn2.2⟩, ⟨(hS.rd 2 rfl), kn3.1, kn3.2⟩, hS.bel⟩
end Go.Proofs.Ytmibkfihcihphaa
namespace Go.Proofs.Ytmibkfihcihphaa
open Go.RowKit
set_option linter.unusedVariables false
set_option linter.unusedSimpArgs false
set_option maxRecDepth 100000
theorem ExV_isS_26 : IsS Try.prog 26 6 := ⟨⟨_, Try.underlying26⟩, by kernel_rfl⟩
theorem ExV_isS_48 : IsS Try.prog 48 5 := ⟨⟨_, Try.underlying48⟩, by kernel_rfl⟩
theorem zpowerT_any {w : World} {x y : Int} {d n : Nat} {a1 a2 a3 : Option Addr} {ac1 ac2 ac3 : Nat} (ha1 : Sc w a1 ac1 (words x.natAbs)) (ha2 : Sc w a2 ac2 (words y.natAbs)) (ha3 : Sc w a3 ac3 (words d)) (l1 : (words x.natAbs).length ≤ 1024) (l2 : (words y.natAbs).length ≤ 1024) (l3 : (words d).length ≤ 1024) (hd : d ≠ 0) {u v : Rat} (hu : mkRat x d = u) (hv : mkRat y d = v) (fu : fitR u) (fv : fitR v) (hn1 : 1 ≤ n) (hn2 : n ≤ 1024) (hB : pwB u v n = true) : Calls Try.prog 42 #[.agg #[.bool (rb x), .slice a1 (words x.natAbs).length ac1, .bool (rb y), .slice a2 (words y.natAbs).length ac2, .slice a3 (words d).length ac3], .int .i64 ((n : Nat) : Int)] w (fun e w' => ∃ X Y D, PwOut u v n X Y D ∧ ∃ o1 c1 o2 c2 o3 c3, e = .returned (.tuple #[.agg #[.bool (rb X), .slice o1 (words X.natAbs).length c1, .bool (rb Y), .slice o2 (words Y.natAbs).length c2, .slice o3 (words D).length c3], .int .i64 0]) ∧ Sc w' o1 c1 (words X.natAbs) ∧ Sc w' o2 c2 (words Y.natAbs) ∧ Sc w' o3 c3 (words D) ∧ Below w.heap.size w w') :=
  (zpower_any ha1 ha2 ha3 l1 l2 l3 hd hu hv fu fv hn1 hn2).mono fun e w' h => h.elim (fun k => k.2) (fun k => absurd (hB.symm.trans k.1) (by decide))
theorem zpowerF_any {w : World} {x y : Int} {d n : Nat} {a1 a2 a3 : Option Addr} {ac1 ac2 ac3 : Nat} (ha1 : Sc w a1 ac1 (words x.natAbs)) (ha2 : Sc w a2 ac2 (words y.natAbs)) (ha3 : Sc w a3 ac3 (words d)) (l1 : (words x.natAbs).length ≤ 1024) (l2 : (words y.natAbs).length ≤ 1024) (l3 : (words d).length ≤ 1024) (hd : d ≠ 0) {u v : Rat} (hu : mkRat x d = u) (hv : mkRat y d = v) (fu : fitR u) (fv : fitR v) (hn1 : 1 ≤ n) (hn2 : n ≤ 1024) (hB : pwB u v n = false) : Calls Try.prog 42 #[.agg #[.bool (rb x), .slice a1 (words x.natAbs).length ac1, .bool (rb y), .slice a2 (words y.natAbs).length ac2, .slice a3 (words d).length ac3], .int .i64 ((n : Nat) : Int)] w (fun e w' => e = .returned (.tuple #[.agg #[.bool false, .slice none 0 0, .bool false, .slice none 0 0, .slice none 0 0], .int .i64 4]) ∧ Below w.heap.size w w') :=
  (zpower_any ha1 ha2 ha3 l1 l2 l3 hd hu hv fu fv hn1 hn2).mono fun e w' h => h.elim (fun k => absurd (hB.symm.trans k.1) (by decide)) (fun k => k.2)
theorem exptE_any {w : World} {q : Q6} {a1 a2 a3 a4 : Option Addr} {ac1 ac2 ac3 ac4 : Nat} (ha : Nm w q a1 ac1 a2 ac2 a3 ac3 a4 ac4) (hl : LenQ q) {n : Int} (hs : soundQ q = false) : Calls Try.prog 16 #[numV q a1 ac1 a2 ac2 a3 ac3 a4 ac4, .int .i64 n] w (AnsN w (exptQ q n)) := by
  have hS : St w w [] [(a4, q.q2), (a3, q.t2), (a2, q.q1), (a1, q.t1)] [] := ((((St.start w).addR ha.s1.rd).addR ha.s2.rd).addR ha.s3.rd).addR ha.s4.rd
  refine walk_of (l := [(0, .agg #[.bool q.b1, .slice a1 q.t1.length ac1, .slice a2 q.q1.length ac2, .bool q.b2, .slice a3 q.t2.length ac3, .slice a4 q.q2.length ac4]), (1, .int .i64 n)]) Try.func16 rfl Try.ntmps16 rfl rfl ?_
  intro Q hret hnorm hP a hA
  refine wp_seq_k (fun K1 hK1 => ?_)
  refine wp_region_lit ?_
  refine seq_new (vs := [.bool q.b1, .slice a1 q.t1.length ac1, .slice a2 q.q1.length ac2, .bool q.b2, .slice a3 q.t2.length ac3, .slice a4 q.q2.length ac4]) (t := 26) hA hS rfl rfl rfl (fun g => .pointer (some ⟨g, 0, none⟩)) (does_box rfl rfl) rfl ?_
  intro g2 w3 hS a hA
  refine seq_new (vs := [.bool false, .slice none 0 0, .slice none 0 0, .bool false, .slice none 0 0, .slice none 0 0]) (t := 26) hA hS rfl rfl rfl (fun g => .pointer (some ⟨g, 0, none⟩)) (does_alloc (z := .agg #[.bool false, .slice none 0 0, .slice none 0 0, .bool false, .slice none 0 0, .slice none 0 0]) (by kernel_rfl) rfl) rfl ?_
  intro g4 w5 hS a hA
  refine seq_do hA rfl rfl rfl (does_assign rfl) ?_
  intro a hA
  refine seq_end ?_
  refine hK1 _ _ ?_
  refine wp_seq_k (fun K6 hK6 => ?_)
  refine wp_block ?_
  refine wp_seq_k (fun K7 hK7 => ?_)
  refine wp_region_lit ?_
  refine seq_do (v := .agg #[.bool q.b1, .slice a1 q.t1.length ac1, .slice a2 q.q1.length ac2, .bool q.b2, .slice a3 q.t2.length ac3, .slice a4 q.q2.length ac4]) hA rfl rfl rfl (does_loadS hS ExV_isS_26 rfl 1 rfl (cs := [.bool q.b1, .slice a1 q.t1.length ac1, .slice a2 q.q1.length ac2, .bool q.b2, .slice a3 q.t2.length ac3, .slice a4 q.q2.length ac4]) rfl rfl) ?_
  intro a hA
  refine seq_call hA rfl rfl rfl (enters_func  rfl rfl (fun w => by kernel_rfl)) (soundQ_any (show Nm _ _ a1 ac1 a2 ac2 a3 ac3 a4 ac4 from ⟨⟨(hS.rd 3 rfl), ha.s1.nil, ha.s1.cap⟩, ⟨(hS.rd 2 rfl), ha.s2.nil, ha.s2.cap⟩, ⟨(hS.rd 1 rfl), ha.s3.nil, ha.s3.cap⟩, ⟨(hS.rd 0 rfl), ha.s4.nil, ha.s4.cap⟩⟩) hl hs) ?_
  rintro _ w9 ⟨rfl, hb8⟩
  replace hS := hS.call hb8
  refine ⟨_, rfl, ?_⟩
  intro a hA
  refine seq_do (v := .bool true) hA rfl rfl rfl (does_un rfl un_not) ?_
  intro a hA
  refine seq_do hA rfl rfl rfl (does_assign rfl) ?_
  intro a hA
  refine seq_end ?_
  refine hK7 _ _ ?_
  refine wp_cond_true (hA.ev rfl) ?_
  refine wp_seq_k (fun K10 hK10 => ?_)
  refine wp_region_lit ?_
  refine seq_do (v := .agg #[.bool false, .slice none 0 0, .slice none 0 0, .bool false, .slice none 0 0, .slice none 0 0]) hA rfl rfl rfl (does_build rfl (fun w => by kernel_rfl)) ?_
  intro a hA
  refine seq_store (us := [.bool false, .slice none 0 0, .slice none 0 0, .bool false, .slice none 0 0, .slice none 0 0]) hA hS rfl rfl (sets_store (cs := [.bool false, .slice none 0 0, .slice none 0 0, .bool false, .slice none 0 0, .slice none 0 0]) rfl rfl rfl (by kernel_rfl) hS 0 rfl rfl rfl) 0 rfl rfl rfl rfl ?_
  intro w11 hS
  refine seq_do hA rfl rfl rfl (does_assign rfl) ?_
  intro a hA
  refine seq_end ?_
  refine hK10 _ _ ?_
  refine wp_ret ?_
  refine hret _ _ ?_
  refine ends (v := .tuple #[.agg #[.bool false, .slice none 0 0, .slice none 0 0, .bool false, .slice none 0 0, .slice none 0 0], .int .i64 2]) hA rfl (.cons (res_cell hS ExV_isS_26 rfl 0 rfl (cs := [.bool false, .slice none 0 0, .slice none 0 0, .bool false, .slice none 0 0, .slice none 0 0]) rfl rfl) (.cons (res_tmp rfl) .nil)) rfl ?_
  rw [exptQ_bad hs]
  exact ⟨none, 0, none, 0, none, 0, none, 0, rfl, ⟨(Sc.none _), (Sc.none _), (Sc.none _), (Sc.none _)⟩, hS.bel⟩
theorem exptA1_any {w : World} {u v : Rat} {a1 a2 a3 a4 : Option Addr} {ac1 ac2 ac3 ac4 : Nat} (ha : Nm w (Q6.rat u v) a1 ac1 a2 ac2 a3 ac3 a4 ac4) (hu : fitR u) (hv : fitR v) {n : Int} (hn : n < -1024) : Calls Try.prog 16 #[numV (Q6.rat u v) a1 ac1 a2 ac2 a3 ac3 a4 ac4, .int .i64 n] w (AnsN w (exptQ (Q6.rat u v) n)) := by
  have hS : St w w [] [(a4, words v.den), (a3, words v.num.natAbs), (a2, words u.den), (a1, words u.num.natAbs)] [] := ((((St.start w).addR ha.s1.rd).addR ha.s2.rd).addR ha.s3.rd).addR ha.s4.rd
  refine walk_of (l := [(0, .agg #[.bool (rb u.num), .slice a1 ((words u.num.natAbs).length) ac1, .slice a2 ((words u.den).length) ac2, .bool (rb v.num), .slice a3 ((words v.num.natAbs).length) ac3, .slice a4 ((words v.den).length) ac4]), (1, .int .i64 n)]) Try.func16 rfl Try.ntmps16 rfl rfl ?_
  intro Q hret hnorm hP a hA
  refine wp_seq_k (fun K1 hK1 => ?_)
  refine wp_region_lit ?_
  refine seq_new (vs := [.bool (rb u.num), .slice a1 ((words u.num.natAbs).length) ac1, .slice a2 ((words u.den).length) ac2, .bool (rb v.num), .slice a3 ((words v.num.natAbs).length) ac3, .slice a4 ((words v.den).length) ac4]) (t := 26) hA hS rfl rfl rfl (fun g => .pointer (some ⟨g, 0, none⟩)) (does_box rfl rfl) rfl ?_
  intro g2 w3 hS a hA
  refine seq_new (vs := [.bool false, .slice none 0 0, .slice none 0 0, .bool false, .slice none 0 0, .slice none 0 0]) (t := 26) hA hS rfl rfl rfl (fun g => .pointer (some ⟨g, 0, none⟩)) (does_alloc (z := .agg #[.bool false, .slice none 0 0, .slice none 0 0, .bool false, .slice none 0 0, .slice none 0 0]) (by kernel_rfl) rfl) rfl ?_
  intro g4 w5 hS a hA
  refine seq_do hA rfl rfl rfl (does_assign rfl) ?_
  intro a hA
  refine seq_end ?_
  refine hK1 _ _ ?_
  refine wp_seq_k (fun K6 hK6 => ?_)
  refine wp_block ?_
  refine wp_seq_k (fun K7 hK7 => ?_)
  refine wp_region_lit ?_
  refine seq_do (v := .agg #[.bool (rb u.num), .slice a1 ((words u.num.natAbs).length) ac1, .slice a2 ((words u.den).length) ac2, .bool (rb v.num), .slice a3 ((words v.num.natAbs).length) ac3, .slice a4 ((words v.den).length) ac4]) hA rfl rfl rfl (does_loadS hS ExV_isS_26 rfl 1 rfl (cs := [.bool (rb u.num), .slice a1 ((words u.num.natAbs).length) ac1, .slice a2 ((words u.den).length) ac2, .bool (rb v.num), .slice a3 ((words v.num.natAbs).length) ac3, .slice a4 ((words v.den).length) ac4]) rfl rfl) ?_
  intro a hA
  refine seq_call hA rfl rfl rfl (enters_func  rfl rfl (fun w => by kernel_rfl)) (soundQ_any (show Nm _ (Q6.rat u v) a1 ac1 a2 ac2 a3 ac3 a4 ac4 from ⟨⟨(hS.rd 3 rfl), ha.s1.nil, ha.s1.cap⟩, ⟨(hS.rd 2 rfl), ha.s2.nil, ha.s2.cap⟩, ⟨(hS.rd 1 rfl), ha.s3.nil, ha.s3.cap⟩, ⟨(hS.rd 0 rfl), ha.s4.nil, ha.s4.cap⟩⟩) (lenQ_rat hu hv) (soundQ_rat hu hv)) ?_
  rintro _ w9 ⟨rfl, hb8⟩
  replace hS := hS.call hb8
  refine ⟨_, rfl, ?_⟩
  intro a hA
  refine seq_do (v := .bool false) hA rfl rfl rfl (does_un rfl un_not) ?_
  intro a hA
  refine seq_do hA rfl rfl rfl (does_assign rfl) ?_
  intro a hA
  refine seq_end ?_
  refine hK7 _ _ ?_
  refine wp_cond_false (hA.ev rfl) ?_
  refine wp_seq_k (fun K10 hK10 => ?_)
  refine wp_region_lit ?_
  refine seq_do hA rfl rfl rfl (does_move rfl) ?_
  intro a hA
  refine seq_do (v := .bool true) hA rfl rfl rfl (does_bin rfl rfl (fun w => (bin_lss w).trans (by rw [show (decide (n < -1024)) = true from (decide_eq_true (by omega))]))) ?_
  intro a hA
  refine seq_do hA rfl rfl rfl (does_move rfl) ?_
  intro a hA
  refine seq_skip hA rfl rfl rfl ?_
  intro a hA
  refine seq_skip hA rfl rfl rfl ?_
  intro a hA
  refine seq_do (v := .bool true) hA rfl rfl rfl (does_pick rfl rfl rfl rfl) ?_
  intro a hA
  refine seq_do hA rfl rfl rfl (does_assign rfl) ?_
  intro a hA
  refine seq_end ?_
  refine hK10 _ _ ?_
  refine wp_cond_true (hA.ev rfl) ?_
  refine wp_seq_k (fun K11 hK11 => ?_)
  refine wp_region_lit ?_
  refine seq_do (v := .agg #[.bool false, .slice none 0 0, .slice none 0 0, .bool false, .slice none 0 0, .slice none 0 0]) hA rfl rfl rfl (does_build rfl (fun w => by kernel_rfl)) ?_
  intro a hA
  refine seq_store (us := [.bool false, .slice none 0 0, .slice none 0 0, .bool false, .slice none 0 0, .slice none 0 0]) hA hS rfl rfl (sets_store (cs := [.bool false, .slice none 0 0, .slice none 0 0, .bool false, .slice none 0 0, .slice none 0 0]) rfl rfl rfl (by kernel_rfl) hS 0 rfl rfl rfl) 0 rfl rfl rfl rfl ?_
  intro w12 hS
  refine seq_do hA rfl rfl rfl (does_assign rfl) ?_
  intro a hA
  refine seq_end ?_
  refine hK11 _ _ ?_
  refine wp_ret ?_
  refine hret _ _ ?_
  refine ends (v := .tuple #[.agg #[.bool false, .slice none 0 0, .slice none 0 0, .bool false, .slice none 0 0, .slice none 0 0], .int .i64 1]) hA rfl (.cons (res_cell hS ExV_isS_26 rfl 0 rfl (cs := [.bool false, .slice none 0 0, .slice none 0 0, .bool false, .slice none 0 0, .slice none 0 0]) rfl rfl) (.cons (res_tmp rfl) .nil)) rfl ?_
  rw [exptQ_arg hu hv (.inl hn)]
  exact ⟨none, 0, none, 0, none, 0, none, 0, rfl, ⟨(Sc.none _), (Sc.none _), (Sc.none _), (Sc.none _)⟩, hS.bel⟩
theorem exptA2_any {w : World} {u v : Rat} {a1 a2 a3 a4 : Option Addr} {ac1 ac2 ac3 ac4 : Nat} (ha : Nm w (Q6.rat u v) a1 ac1 a2 ac2 a3 ac3 a4 ac4) (hu : fitR u) (hv : fitR v) {n : Int} (hn : 1024 < n) : Calls Try.prog 16 #[numV (Q6.rat u v) a1 ac1 a2 ac2 a3 ac3 a4 ac4, .int .i64 n] w (AnsN w (exptQ (Q6.rat u v) n)) := by
  have hS : St w w [] [(a4, words v.den), (a3, words v.num.natAbs), (a2, words u.den), (a1, words u.num.natAbs)] [] := ((((St.start w).addR ha.s1.rd).addR ha.s2.rd).addR ha.s3.rd).addR ha.s4.rd
  refine walk_of (l := [(0, .agg #[.bool (rb u.num), .slice a1 ((words u.num.natAbs).length) ac1, .slice a2 ((words u.den).length) ac2, .bool (rb v.num), .slice a3 ((words v.num.natAbs).length) ac3, .slice a4 ((words v.den).length) ac4]), (1, .int .i64 n)]) Try.func16 rfl Try.ntmps16 rfl rfl ?_
  intro Q hret hnorm hP a hA
  refine wp_seq_k (fun K1 hK1 => ?_)
  refine wp_region_lit ?_
  refine seq_new (vs := [.bool (rb u.num), .slice a1 ((words u.num.natAbs).length) ac1, .slice a2 ((words u.den).length) ac2, .bool (rb v.num), .slice a3 ((words v.num.natAbs).length) ac3, .slice a4 ((words v.den).length) ac4]) (t := 26) hA hS rfl rfl rfl (fun g => .pointer (some ⟨g, 0, none⟩)) (does_box rfl rfl) rfl ?_
  intro g2 w3 hS a hA
  refine seq_new (vs := [.bool false, .slice none 0 0, .slice none 0 0, .bool false, .slice none 0 0, .slice none 0 0]) (t := 26) hA hS rfl rfl rfl (fun g => .pointer (some ⟨g, 0, none⟩)) (does_alloc (z := .agg #[.bool false, .slice none 0 0, .slice none 0 0, .bool false, .slice none 0 0, .slice none 0 0]) (by kernel_rfl) rfl) rfl ?_
  intro g4 w5 hS a hA
  refine seq_do hA rfl rfl rfl (does_assign rfl) ?_
  intro a hA
  refine seq_end ?_
  refine hK1 _ _ ?_
  refine wp_seq_k (fun K6 hK6 => ?_)
  refine wp_block ?_
  refine wp_seq_k (fun K7 hK7 => ?_)
  refine wp_region_lit ?_
  refine seq_do (v := .agg #[.bool (rb u.num), .slice a1 ((words u.num.natAbs).length) ac1, .slice a2 ((words u.den).length) ac2, .bool (rb v.num), .slice a3 ((words v.num.natAbs).length) ac3, .slice a4 ((words v.den).length) ac4]) hA rfl rfl rfl (does_loadS hS ExV_isS_26 rfl 1 rfl (cs := [.bool (rb u.num), .slice a1 ((words u.num.natAbs).length) ac1, .slice a2 ((words u.den).length) ac2, .bool (rb v.num), .slice a3 ((words v.num.natAbs).length) ac3, .slice a4 ((words v.den).length) ac4]) rfl rfl) ?_
  intro a hA
  refine seq_call hA rfl rfl rfl (enters_func  rfl rfl (fun w => by kernel_rfl)) (soundQ_any (show Nm _ (Q6.rat u v) a1 ac1 a2 ac2 a3 ac3 a4 ac4 from ⟨⟨(hS.rd 3 rfl), ha.s1.nil, ha.s1.cap⟩, ⟨(hS.rd 2 rfl), ha.s2.nil, ha.s2.cap⟩, ⟨(hS.rd 1 rfl), ha.s3.nil, ha.s3.cap⟩, ⟨(hS.rd 0 rfl), ha.s4.nil, ha.s4.cap⟩⟩) (lenQ_rat hu hv) (soundQ_rat hu hv)) ?_
  rintro _ w9 ⟨rfl, hb8⟩
  replace hS := hS.call hb8
  refine ⟨_, rfl, ?_⟩
  intro a hA
  refine seq_do (v := .bool false) hA rfl rfl rfl (does_un rfl un_not) ?_
  intro a hA
  refine seq_do hA rfl rfl rfl (does_assign rfl) ?_
  intro a hA
  refine seq_end ?_
  refine hK7 _ _ ?_
  refine wp_cond_false (hA.ev rfl) ?_
  refine wp_seq_k (fun K10 hK10 => ?_)
  refine wp_region_lit ?_
  refine seq_do hA rfl rfl rfl (does_move rfl) ?_
  intro a hA
  refine seq_do (v := .bool false) hA rfl rfl rfl (does_bin rfl rfl (fun w => (bin_lss w).trans (by rw [show (decide (n < -1024)) = false from (decide_eq_false (by omega))]))) ?_
  intro a hA
  refine seq_do hA rfl rfl rfl (does_move rfl) ?_
  intro a hA
  refine seq_do hA rfl rfl rfl (does_move rfl) ?_
  intro a hA
  refine seq_do (v := .bool true) hA rfl rfl rfl (does_bin rfl rfl (fun w => (bin_gtr w).trans (by rw [show (decide (1024 < n)) = true from (decide_eq_true (by omega))]))) ?_
  intro a hA
  refine seq_do (v := .bool true) hA rfl rfl rfl (does_pick rfl rfl rfl rfl) ?_
  intro a hA
  refine seq_do hA rfl rfl rfl (does_assign rfl) ?_
  intro a hA
  refine seq_end ?_
  refine hK10 _ _ ?_
  refine wp_cond_true (hA.ev rfl) ?_
  refine wp_seq_k (fun K11 hK11 => ?_)
  refine wp_region_lit ?_
  refine seq_do (v := .agg #[.bool false, .slice none 0 0, .slice none 0 0, .bool false, .slice none 0 0, .slice none 0 0]) hA rfl rfl rfl (does_build rfl (fun w => by kernel_rfl)) ?_
  intro a hA
  refine seq_store (us := [.bool false, .slice none 0 0, .slice none 0 0, .bool false, .slice none 0 0, .slice none 0 0]) hA hS rfl rfl (sets_store (cs := [.bool false, .slice none 0 0, .slice none 0 0, .bool false, .slice none 0 0, .slice none 0 0]) rfl rfl rfl (by kernel_rfl) hS 0 rfl rfl rfl) 0 rfl rfl rfl rfl ?_
  intro w12 hS
  refine seq_do hA rfl rfl rfl (does_assign rfl) ?_
  intro a hA
  refine seq_end ?_
  refine hK11 _ _ ?_
  refine wp_ret ?_
  refine hret _ _ ?_
  refine ends (v := .tuple #[.agg #[.bool false, .slice none 0 0, .slice none 0 0, .bool false, .slice none 0 0, .slice none 0 0], .int .i64 1]) hA rfl (.cons (res_cell hS ExV_isS_26 rfl 0 rfl (cs := [.bool false, .slice none 0 0, .slice none 0 0, .bool false, .slice none 0 0, .slice none 0 0]) rfl rfl) (.cons (res_tmp rfl) .nil)) rfl ?_
  rw [exptQ_arg hu hv (.inr hn)]
  exact ⟨none, 0, none, 0, none, 0, none, 0, rfl, ⟨(Sc.none _), (Sc.none _), (Sc.none _), (Sc.none _)⟩, hS.bel⟩
theorem expt0_any {w : World} {u v : Rat} {a1 a2 a3 a4 : Option Addr} {ac1 ac2 ac3 ac4 : Nat} (ha : Nm w (Q6.rat u v) a1 ac1 a2 ac2 a3 ac3 a4 ac4) (hu : fitR u) (hv : fitR v)  : Calls Try.prog 16 #[numV (Q6.rat u v) a1 ac1 a2 ac2 a3 ac3 a4 ac4, .int .i64 0] w (AnsN w (exptQ (Q6.rat u v) 0)) := by
  have hS : St w w [] [(a4, words v.den), (a3, words v.num.natAbs), (a2, words u.den), (a1, words u.num.natAbs)] [] := ((((St.start w).addR ha.s1.rd).addR ha.s2.rd).addR ha.s3.rd).addR ha.s4.rd
  refine walk_of (l := [(0, .agg #[.bool (rb u.num), .slice a1 ((words u.num.natAbs).length) ac1, .slice a2 ((words u.den).length) ac2, .bool (rb v.num), .slice a3 ((words v.num.natAbs).length) ac3, .slice a4 ((words v.den).length) ac4]), (1, .int .i64 0)]) Try.func16 rfl Try.ntmps16 rfl rfl ?_
  intro Q hret hnorm hP a hA
  refine wp_seq_k (fun K1 hK1 => ?_)
  refine wp_region_lit ?_
  refine seq_new (vs := [.bool (rb u.num), .slice a1 ((words u.num.natAbs).length) ac1, .slice a2 ((words u.den).length) ac2, .bool (rb v.num), .slice a3 ((words v.num.natAbs).length) ac3, .slice a4 ((words v.den).length) ac4]) (t := 26) hA hS rfl rfl rfl (fun g => .pointer (some ⟨g, 0, none⟩)) (does_box rfl rfl) rfl ?_
  intro g2 w3 hS a hA
  refine seq_new (vs := [.bool false, .slice none 0 0, .slice none 0 0, .bool false, .slice none 0 0, .slice none 0 0]) (t := 26) hA hS rfl rfl rfl (fun g => .pointer (some ⟨g, 0, none⟩)) (does_alloc (z := .agg #[.bool false, .slice none 0 0, .slice none 0 0, .bool false, .slice none 0 0, .slice none 0 0]) (by kernel_rfl) rfl) rfl ?_
  intro g4 w5 hS a hA
  refine seq_do hA rfl rfl rfl (does_assign rfl) ?_
  intro a hA
  refine seq_end ?_
  refine hK1 _ _ ?_
  refine wp_seq_k (fun K6 hK6 => ?_)
  refine wp_block ?_
  refine wp_seq_k (fun K7 hK7 => ?_)
  refine wp_region_lit ?_
  refine seq_do (v := .agg #[.bool (rb u.num), .slice a1 ((words u.num.natAbs).length) ac1, .slice a2 ((words u.den).length) ac2, .bool (rb v.num), .slice a3 ((words v.num.natAbs).length) ac3, .slice a4 ((words v.den).length) ac4]) hA rfl rfl rfl (does_loadS hS ExV_isS_26 rfl 1 rfl (cs := [.bool (rb u.num), .slice a1 ((words u.num.natAbs).length) ac1, .slice a2 ((words u.den).length) ac2, .bool (rb v.num), .slice a3 ((words v.num.natAbs).length) ac3, .slice a4 ((words v.den).length) ac4]) rfl rfl) ?_
  intro a hA
  refine seq_call hA rfl rfl rfl (enters_func  rfl rfl (fun w => by kernel_rfl)) (soundQ_any (show Nm _ (Q6.rat u v) a1 ac1 a2 ac2 a3 ac3 a4 ac4 from ⟨⟨(hS.rd 3 rfl), ha.s1.nil, ha.s1.cap⟩, ⟨(hS.rd 2 rfl), ha.s2.nil, ha.s2.cap⟩, ⟨(hS.rd 1 rfl), ha.s3.nil, ha.s3.cap⟩, ⟨(hS.rd 0 rfl), ha.s4.nil, ha.s4.cap⟩⟩) (lenQ_rat hu hv) (soundQ_rat hu hv)) ?_
  rintro _ w9 ⟨rfl, hb8⟩
  replace hS := hS.call hb8
  refine ⟨_, rfl, ?_⟩
  intro a hA
  refine seq_do (v := .bool false) hA rfl rfl rfl (does_un rfl un_not) ?_
  intro a hA
  refine seq_do hA rfl rfl rfl (does_assign rfl) ?_
  intro a hA
  refine seq_end ?_
  refine hK7 _ _ ?_
  refine wp_cond_false (hA.ev rfl) ?_
  refine wp_seq_k (fun K10 hK10 => ?_)
  refine wp_region_lit ?_
  refine seq_do hA rfl rfl rfl (does_move rfl) ?_
  intro a hA
  refine seq_do (v := .bool false) hA rfl rfl rfl (does_bin rfl rfl (fun w => by kernel_rfl)) ?_
  intro a hA
  refine seq_do hA rfl rfl rfl (does_move rfl) ?_
  intro a hA
  refine seq_do hA rfl rfl rfl (does_move rfl) ?_
  intro a hA
  refine seq_do (v := .bool false) hA rfl rfl rfl (does_bin rfl rfl (fun w => by kernel_rfl)) ?_
  intro a hA
  refine seq_do (v := .bool false) hA rfl rfl rfl (does_pick rfl rfl rfl rfl) ?_
  intro a hA
  refine seq_do hA rfl rfl rfl (does_assign rfl) ?_
  intro a hA
  refine seq_end ?_
  refine hK10 _ _ ?_
  refine wp_cond_false (hA.ev rfl) ?_
  refine wp_seq_k (fun K11 hK11 => ?_)
  refine wp_region_lit ?_
  refine seq_do hA rfl rfl rfl (does_move rfl) ?_
  intro a hA
  refine seq_do (v := .bool true) hA rfl rfl rfl (does_bin rfl rfl (fun w => by kernel_rfl)) ?_
  intro a hA
  refine seq_do hA rfl rfl rfl (does_assign rfl) ?_
  intro a hA
  refine seq_end ?_
  refine hK11 _ _ ?_
  refine wp_cond_true (hA.ev rfl) ?_
  refine wp_seq_k (fun K12 hK12 => ?_)
  refine wp_region_lit ?_
  refine seq_call hA rfl rfl rfl (enters_func  rfl rfl (fun w => by kernel_rfl)) ((show Calls Try.prog 13 #[.int .i64 (1)] _ (AnsV _ (Q6.whole false 1)) from intP_any (k := 1) (by decide))) ?_
  rintro _ w16 ⟨p13_1, p13_c1, p13_2, p13_c2, p13_3, p13_c3, p13_4, p13_c4, rfl, hn14, hb15⟩
  replace hS := hS.call hb15
  replace hS := hS.addR hn14.s1.rd
  replace hS := hS.addR hn14.s2.rd
  replace hS := hS.addR hn14.s3.rd
  replace hS := hS.addR hn14.s4.rd
  refine ⟨_, rfl, ?_⟩
  intro a hA
  refine seq_store (us := [.bool false, .slice p13_1 ((words 1).length) p13_c1, .slice p13_2 1 p13_c2, .bool false, .slice p13_3 0 p13_c3, .slice p13_4 1 p13_c4]) hA hS rfl rfl (sets_store (cs := [.bool false, .slice p13_1 ((words 1).length) p13_c1, .slice p13_2 1 p13_c2, .bool false, .slice p13_3 0 p13_c3, .slice p13_4 1 p13_c4]) rfl rfl rfl (by kernel_rfl) hS 0 rfl rfl rfl) 0 rfl rfl rfl rfl ?_
  intro w17 hS
  refine seq_do hA rfl rfl rfl (does_assign rfl) ?_
  intro a hA
  refine seq_end ?_
  refine hK12 _ _ ?_
  refine wp_ret ?_
  refine hret _ _ ?_
  refine ends (v := .tuple #[.agg #[.bool false, .slice p13_1 ((words 1).length) p13_c1, .slice p13_2 1 p13_c2, .bool false, .slice p13_3 0 p13_c3, .slice p13_4 1 p13_c4], .int .i64 0]) hA rfl (.cons (res_cell hS ExV_isS_26 rfl 0 rfl (cs := [.bool false, .slice p13_1 ((words 1).length) p13_c1, .slice p13_2 1 p13_c2, .bool false, .slice p13_3 0 p13_c3, .slice p13_4 1 p13_c4]) rfl rfl) (.cons (res_tmp rfl) .nil)) rfl ?_
  rw [exptQ_0 hu hv]
  exact ⟨p13_1, p13_c1, p13_2, p13_c2, p13_3, p13_c3, p13_4, p13_c4, rfl, ⟨⟨(hS.rd 3 rfl), hn14.s1.nil, hn14.s1.cap⟩, ⟨(hS.rd 2 rfl), hn14.s2.nil, hn14.s2.cap⟩, ⟨(hS.rd 1 rfl), hn14.s3.nil, hn14.s3.cap⟩, ⟨(hS.rd 0 rfl), hn14.s4.nil, hn14.s4.cap⟩⟩, hS.bel⟩
theorem exptZ_any {w : World} {u v : Rat} {a1 a2 a3 a4 : Option Addr} {ac1 ac2 ac3 ac4 : Nat} (ha : Nm w (Q6.rat u v) a1 ac1 a2 ac2 a3 ac3 a4 ac4) (hu : fitR u) (hv : fitR v) {N : Nat} (h1 : 1 ≤ N) (h2 : N ≤ 1024) (hz : u = 0 ∧ v = 0) : Calls Try.prog 16 #[numV (Q6.rat u v) a1 ac1 a2 ac2 a3 ac3 a4 ac4, .int .i64 (-((N : Nat) : Int))] w (AnsN w (exptQ (Q6.rat u v) (-((N : Nat) : Int)))) := by
  have k1 : (words u.num.natAbs).length ≤ 512 := hu.1
  have k2 : (words v.num.natAbs).length ≤ 512 := hv.1
  have hS : St w w [] [(a4, words v.den), (a3, words v.num.natAbs), (a2, words u.den), (a1, words u.num.natAbs)] [] := ((((St.start w).addR ha.s1.rd).addR ha.s2.rd).addR ha.s3.rd).addR ha.s4.rd
  refine walk_of (l := [(0, .agg #[.bool (rb u.num), .slice a1 ((words u.num.natAbs).length) ac1, .slice a2 ((words u.den).length) ac2, .bool (rb v.num), .slice a3 ((words v.num.natAbs).length) ac3, .slice a4 ((words v.den).length) ac4]), (1, .int .i64 (-((N : Nat) : Int)))]) Try.func16 rfl Try.ntmps16 rfl rfl ?_
  intro Q hret hnorm hP a hA
  refine wp_seq_k (fun K1 hK1 => ?_)
  refine wp_region_lit ?_
  refine seq_new (vs := [.bool (rb u.num), .slice a1 ((words u.num.natAbs).length) ac1, .slice a2 ((words u.den).length) ac2, .bool (rb v.num), .slice a3 ((words v.num.natAbs).length) ac3, .slice a4 ((words v.den).length) ac4]) (t := 26) hA hS rfl rfl rfl (fun g => .pointer (some ⟨g, 0, none⟩)) (does_box rfl rfl) rfl ?_
  intro g2 w3 hS a hA
  refine seq_new (vs := [.bool false, .slice none 0 0, .slice none 0 0, .bool false, .slice none 0 0, .slice none 0 0]) (t := 26) hA hS rfl rfl rfl (fun g => .pointer (some ⟨g, 0, none⟩)) (does_alloc (z := .agg #[.bool false, .slice none 0 0, .slice none 0 0, .bool false, .slice none 0 0, .slice none 0 0]) (by kernel_rfl) rfl) rfl ?_
  intro g4 w5 hS a hA
  refine seq_do hA rfl rfl rfl (does_assign rfl) ?_
  intro a hA
  refine seq_end ?_
  refine hK1 _ _ ?_
  refine wp_seq_k (fun K6 hK6 => ?_)
  refine wp_block ?_
  refine wp_seq_k (fun K7 hK7 => ?_)
  refine wp_region_lit ?_
  refine seq_do (v := .agg #[.bool (rb u.num), .slice a1 ((words u.num.natAbs).length) ac1, .slice a2 ((words u.den).length) ac2, .bool (rb v.num), .slice a3 ((words v.num.natAbs).length) ac3, .slice a4 ((words v.den).length) ac4]) hA rfl rfl rfl (does_loadS hS ExV_isS_26 rfl 1 rfl (cs := [.bool (rb u.num), .slice a1 ((words u.num.natAbs).length) ac1, .slice a2 ((words u.den).length) ac2, .bool (rb v.num), .slice a3 ((words v.num.natAbs).length) ac3, .slice a4 ((words v.den).length) ac4]) rfl rfl) ?_
  intro a hA
  refine seq_call hA rfl rfl rfl (enters_func  rfl rfl (fun w => by kernel_rfl)) (soundQ_any (show Nm _ (Q6.rat u v) a1 ac1 a2 ac2 a3 ac3 a4 ac4 from ⟨⟨(hS.rd 3 rfl), ha.s1.nil, ha.s1.cap⟩, ⟨(hS.rd 2 rfl), ha.s2.nil, ha.s2.cap⟩, ⟨(hS.rd 1 rfl), ha.s3.nil, ha.s3.cap⟩, ⟨(hS.rd 0 rfl), ha.s4.nil, ha.s4.cap⟩⟩) (lenQ_rat hu hv) (soundQ_rat hu hv)) ?_
  rintro _ w9 ⟨rfl, hb8⟩
  replace hS := hS.call hb8
  refine ⟨_, rfl, ?_⟩
  intro a hA
  refine seq_do (v := .bool false) hA rfl rfl rfl (does_un rfl un_not) ?_
  intro a hA
  refine seq_do hA rfl rfl rfl (does_assign rfl) ?_
  intro a hA
  refine seq_end ?_
  refine hK7 _ _ ?_
  refine wp_cond_false (hA.ev rfl) ?_
  refine wp_seq_k (fun K10 hK10 => ?_)
  refine wp_region_lit ?_
  refine seq_do hA rfl rfl rfl (does_move rfl) ?_
  intro a hA
  refine seq_do (v := .bool false) hA rfl rfl rfl (does_bin rfl rfl (fun w => (bin_lss w).trans (by rw [show (decide (-((N : Nat) : Int) < -1024)) = false from (decide_eq_false (by omega))]))) ?_
  intro a hA
  refine seq_do hA rfl rfl rfl (does_move rfl) ?_
  intro a hA
  refine seq_do hA rfl rfl rfl (does_move rfl) ?_
  intro a hA
  refine seq_do (v := .bool false) hA rfl rfl rfl (does_bin rfl rfl (fun w => (bin_gtr w).trans (by rw [show (decide (1024 < -((N : Nat) : Int))) = false from (decide_eq_false (by omega))]))) ?_
  intro a hA
  refine seq_do (v := .bool false) hA rfl rfl rfl (does_pick rfl rfl rfl rfl) ?_
  intro a hA
  refine seq_do hA rfl rfl rfl (does_assign rfl) ?_
  intro a hA
  refine seq_end ?_
  refine hK10 _ _ ?_
  refine wp_cond_false (hA.ev rfl) ?_
  refine wp_seq_k (fun K11 hK11 => ?_)
  refine wp_region_lit ?_
  refine seq_do hA rfl rfl rfl (does_move rfl) ?_
  intro a hA
  refine seq_do (v := .bool false) hA rfl rfl rfl (does_bin rfl rfl (fun w => (bin_eql w).trans (by rw [show ((-((N : Nat) : Int) == 0)) = false from (beq_eq_false_iff_ne.2 (by omega))]))) ?_
  intro a hA
  refine seq_do hA rfl rfl rfl (does_assign rfl) ?_
  intro a hA
  refine seq_end ?_
  refine hK11 _ _ ?_
  refine wp_cond_false (hA.ev rfl) ?_
  refine wp_seq_k (fun K12 hK12 => ?_)
  refine wp_region_lit ?_
  refine seq_do hA rfl rfl rfl (does_move rfl) ?_
  intro a hA
  refine seq_do (v := .bool true) hA rfl rfl rfl (does_bin rfl rfl (fun w => (bin_lss w).trans (by rw [show (decide (-((N : Nat) : Int) < 0)) = true from (decide_eq_true (by omega))]))) ?_
  intro a hA
  refine seq_do hA rfl rfl rfl (does_move rfl) ?_
  intro a hA
  refine seq_do (v := .agg #[.bool (rb u.num), .slice a1 ((words u.num.natAbs).length) ac1, .slice a2 ((words u.den).length) ac2, .bool (rb v.num), .slice a3 ((words v.num.natAbs).length) ac3, .slice a4 ((words v.den).length) ac4]) hA rfl rfl rfl (does_loadS hS ExV_isS_26 rfl 1 rfl (cs := [.bool (rb u.num), .slice a1 ((words u.num.natAbs).length) ac1, .slice a2 ((words u.den).length) ac2, .bool (rb v.num), .slice a3 ((words v.num.natAbs).length) ac3, .slice a4 ((words v.den).length) ac4]) rfl rfl) ?_
  intro a hA
  refine seq_call hA rfl rfl rfl (enters_func  rfl rfl (fun w => by kernel_rfl)) ((show Calls Try.prog 32 #[.agg #[.bool (rb u.num), .slice a1 ((words u.num.natAbs).length) ac1, .slice a2 ((words u.den).length) ac2, .bool (rb v.num), .slice a3 ((words v.num.natAbs).length) ac3, .slice a4 ((words v.den).length) ac4]] _ (fun e w' => e = .returned (.bool true) ∧ _) from (((zero_rat u v).trans (decide_eq_true hz)) ▸ isZero_any (by omega) (by omega)))) ?_
  rintro _ w14 ⟨rfl, hb13⟩
  replace hS := hS.call hb13
  refine ⟨_, rfl, ?_⟩
  intro a hA
  refine seq_do (v := .bool true) hA rfl rfl rfl (does_pick rfl rfl rfl rfl) ?_
  intro a hA
  refine seq_do hA rfl rfl rfl (does_assign rfl) ?_
  intro a hA
  refine seq_end ?_
  refine hK12 _ _ ?_
  refine wp_cond_true (hA.ev rfl) ?_
  refine wp_seq_k (fun K15 hK15 => ?_)
  refine wp_region_lit ?_
  refine seq_do (v := .agg #[.bool false, .slice none 0 0, .slice none 0 0, .bool false, .slice none 0 0, .slice none 0 0]) hA rfl rfl rfl (does_build rfl (fun w => by kernel_rfl)) ?_
  intro a hA
  refine seq_store (us := [.bool false, .slice none 0 0, .slice none 0 0, .bool false, .slice none 0 0, .slice none 0 0]) hA hS rfl rfl (sets_store (cs := [.bool false, .slice none 0 0, .slice none 0 0, .bool false, .slice none 0 0, .slice none 0 0]) rfl rfl rfl (by kernel_rfl) hS 0 rfl rfl rfl) 0 rfl rfl rfl rfl ?_
  intro w16 hS
  refine seq_do hA rfl rfl rfl (does_assign rfl) ?_
  intro a hA
  refine seq_end ?_
  refine hK15 _ _ ?_
  refine wp_ret ?_
  refine hret _ _ ?_
  refine ends (v := .tuple #[.agg #[.bool false, .slice none 0 0, .slice none 0 0, .bool false, .slice none 0 0, .slice none 0 0], .int .i64 3]) hA rfl (.cons (res_cell hS ExV_isS_26 rfl 0 rfl (cs := [.bool false, .slice none 0 0, .slice none 0 0, .bool false, .slice none 0 0, .slice none 0 0]) rfl rfl) (.cons (res_tmp rfl) .nil)) rfl ?_
  rw [exptQ_z hu hv h1 h2 hz]
  exact ⟨none, 0, none, 0, none, 0, none, 0, rfl, ⟨(Sc.none _), (Sc.none _), (Sc.none _), (Sc.none _)⟩, hS.bel⟩
theorem exptPT_any {w : World} {u v : Rat} {a1 a2 a3 a4 : Option Addr} {ac1 ac2 ac3 ac4 : Nat} (ha : Nm w (Q6.rat u v) a1 ac1 a2 ac2 a3 ac3 a4 ac4) (hu : fitR u) (hv : fitR v) {N : Nat} (h1 : 1 ≤ N) (h2 : N ≤ 1024) (hB : pwB u v N = true) : Calls Try.prog 16 #[numV (Q6.rat u v) a1 ac1 a2 ac2 a3 ac3 a4 ac4, .int .i64 (((N : Nat) : Int))] w (AnsN w (exptQ (Q6.rat u v) (((N : Nat) : Int)))) := by
  have hS : St w w [] [(a4, words v.den), (a3, words v.num.natAbs), (a2, words u.den), (a1, words u.num.natAbs)] [] := ((((St.start w).addR ha.s1.rd).addR ha.s2.rd).addR ha.s3.rd).addR ha.s4.rd
  refine walk_of (l := [(0, .agg #[.bool (rb u.num), .slice a1 ((words u.num.natAbs).length) ac1, .slice a2 ((words u.den).length) ac2, .bool (rb v.num), .slice a3 ((words v.num.natAbs).length) ac3, .slice a4 ((words v.den).length) ac4]), (1, .int .i64 (((N : Nat) : Int)))]) Try.func16 rfl Try.ntmps16 rfl rfl ?_
  intro Q hret hnorm hP a hA
  refine wp_seq_k (fun K1 hK1 => ?_)
  refine wp_region_lit ?_
  refine seq_new (vs := [.bool (rb u.num), .slice a1 ((words u.num.natAbs).length) ac1, .slice a2 ((words u.den).length) ac2, .bool (rb v.num), .slice a3 ((words v.num.natAbs).length) ac3, .slice a4 ((words v.den).length) ac4]) (t := 26) hA hS rfl rfl rfl (fun g => .pointer (some ⟨g, 0, none⟩)) (does_box rfl rfl) rfl ?_
  intro g2 w3 hS a hA
  refine seq_new (vs := [.bool false, .slice none 0 0, .slice none 0 0, .bool false, .slice none 0 0, .slice none 0 0]) (t := 26) hA hS rfl rfl rfl (fun g => .pointer (some ⟨g, 0, none⟩)) (does_alloc (z := .agg #[.bool false, .slice none 0 0, .slice none 0 0, .bool false, .slice none 0 0, .slice none 0 0]) (by kernel_rfl) rfl) rfl ?_
  intro g4 w5 hS a hA
  refine seq_do hA rfl rfl rfl (does_assign rfl) ?_
  intro a hA
  refine seq_end ?_
  refine hK1 _ _ ?_
  refine wp_seq_k (fun K6 hK6 => ?_)
  refine wp_block ?_
  refine wp_seq_k (fun K7 hK7 => ?_)
  refine wp_region_lit ?_
  refine seq_do (v := .agg #[.bool (rb u.num), .slice a1 ((words u.num.natAbs).length) ac1, .slice a2 ((words u.den).length) ac2, .bool (rb v.num), .slice a3 ((words v.num.natAbs).length) ac3, .slice a4 ((words v.den).length) ac4]) hA rfl rfl rfl (does_loadS hS ExV_isS_26 rfl 1 rfl (cs := [.bool (rb u.num), .slice a1 ((words u.num.natAbs).length) ac1, .slice a2 ((words u.den).length) ac2, .bool (rb v.num), .slice a3 ((words v.num.natAbs).length) ac3, .slice a4 ((words v.den).length) ac4]) rfl rfl) ?_
  intro a hA
  refine seq_call hA rfl rfl rfl (enters_func  rfl rfl (fun w => by kernel_rfl)) (soundQ_any (show Nm _ (Q6.rat u v) a1 ac1 a2 ac2 a3 ac3 a4 ac4 from ⟨⟨(hS.rd 3 rfl), ha.s1.nil, ha.s1.cap⟩, ⟨(hS.rd 2 rfl), ha.s2.nil, ha.s2.cap⟩, ⟨(hS.rd 1 rfl), ha.s3.nil, ha.s3.cap⟩, ⟨(hS.rd 0 rfl), ha.s4.nil, ha.s4.cap⟩⟩) (lenQ_rat hu hv) (soundQ_rat hu hv)) ?_
  rintro _ w9 ⟨rfl, hb8⟩
  replace hS := hS.call hb8
  refine ⟨_, rfl, ?_⟩
  intro a hA
  refine seq_do (v := .bool false) hA rfl rfl rfl (does_un rfl un_not) ?_
  intro a hA
  refine seq_do hA rfl rfl rfl (does_assign rfl) ?_
  intro a hA
  refine seq_end ?_
  refine hK7 _ _ ?_
  refine wp_cond_false (hA.ev rfl) ?_
  refine wp_seq_k (fun K10 hK10 => ?_)
  refine wp_region_lit ?_
  refine seq_do hA rfl rfl rfl (does_move rfl) ?_
  intro a hA
  refine seq_do (v := .bool false) hA rfl rfl rfl (does_bin rfl rfl (fun w => (bin_lss w).trans (by rw [show (decide (((N : Nat) : Int) < -1024)) = false from (decide_eq_false (by omega))]))) ?_
  intro a hA
  refine seq_do hA rfl rfl rfl (does_move rfl) ?_
  intro a hA
  refine seq_do hA rfl rfl rfl (does_move rfl) ?_
  intro a hA
  refine seq_do (v := .bool false) hA rfl rfl rfl (does_bin rfl rfl (fun w => (bin_gtr w).trans (by rw [show (decide (1024 < ((N : Nat) : Int))) = false from (decide_eq_false (by omega))]))) ?_
  intro a hA
  refine seq_do (v := .bool false) hA rfl rfl rfl (does_pick rfl rfl rfl rfl) ?_
  intro a hA
  refine seq_do hA rfl rfl rfl (does_assign rfl) ?_
  intro a hA
  refine seq_end ?_
  refine hK10 _ _ ?_
  refine wp_cond_false (hA.ev rfl) ?_
  refine wp_seq_k (fun K11 hK11 => ?_)
  refine wp_region_lit ?_
  refine seq_do hA rfl rfl rfl (does_move rfl) ?_
  intro a hA
  refine seq_do (v := .bool false) hA rfl rfl rfl (does_bin rfl rfl (fun w => (bin_eql w).trans (by rw [show ((((N : Nat) : Int) == 0)) = false from (beq_eq_false_iff_ne.2 (by omega))]))) ?_
  intro a hA
  refine seq_do hA rfl rfl rfl (does_assign rfl) ?_
  intro a hA
  refine seq_end ?_
  refine hK11 _ _ ?_
  refine wp_cond_false (hA.ev rfl) ?_
  refine wp_seq_k (fun K12 hK12 => ?_)
  refine wp_region_lit ?_
  refine seq_do hA rfl rfl rfl (does_move rfl) ?_
  intro a hA
  refine seq_do (v := .bool false) hA rfl rfl rfl (does_bin rfl rfl (fun w => (bin_lss w).trans (by rw [show (decide (((N : Nat) : Int) < 0)) = false from (decide_eq_false (by omega))]))) ?_
  intro a hA
  refine seq_do hA rfl rfl rfl (does_move rfl) ?_
  intro a hA
  refine seq_skip hA rfl rfl rfl ?_
  intro a hA
  refine seq_skip hA rfl rfl rfl ?_
  intro a hA
  refine seq_do (v := .bool false) hA rfl rfl rfl (does_pick rfl rfl rfl rfl) ?_
  intro a hA
  refine seq_do hA rfl rfl rfl (does_assign rfl) ?_
  intro a hA
  refine seq_end ?_
  refine hK12 _ _ ?_
  refine wp_cond_false (hA.ev rfl) ?_
  refine wp_skip ?_
  refine hK6 _ _ ?_
  refine wp_seq_k (fun K13 hK13 => ?_)
  refine wp_region_lit ?_
  refine seq_do (v := .agg #[.bool (rb u.num), .slice a1 ((words u.num.natAbs).length) ac1, .slice a2 ((words u.den).length) ac2, .bool (rb v.num), .slice a3 ((words v.num.natAbs).length) ac3, .slice a4 ((words v.den).length) ac4]) hA rfl rfl rfl (does_loadS hS ExV_isS_26 rfl 1 rfl (cs := [.bool (rb u.num), .slice a1 ((words u.num.natAbs).length) ac1, .slice a2 ((words u.den).length) ac2, .bool (rb v.num), .slice a3 ((words v.num.natAbs).length) ac3, .slice a4 ((words v.den).length) ac4]) rfl rfl) ?_
  intro a hA
  refine seq_call hA rfl rfl rfl (enters_func  rfl rfl (fun w => by kernel_rfl)) (zspread_any (show Nm _ (Q6.rat u v) a1 ac1 a2 ac2 a3 ac3 a4 ac4 from ⟨⟨(hS.rd 3 rfl), ha.s1.nil, ha.s1.cap⟩, ⟨(hS.rd 2 rfl), ha.s2.nil, ha.s2.cap⟩, ⟨(hS.rd 1 rfl), ha.s3.nil, ha.s3.cap⟩, ⟨(hS.rd 0 rfl), ha.s4.nil, ha.s4.cap⟩⟩) hu hv) ?_
  rintro _ w19 ⟨p14_1, p14_c1, p14_2, p14_c2, p14_3, p14_c3, rfl, hs15, hs16, hs17, hb18⟩
  replace hS := hS.call hb18
  replace hS := hS.addR hs15.rd
  replace hS := hS.addR hs16.rd
  replace hS := hS.addR hs17.rd
  refine ⟨_, rfl, ?_⟩
  intro a hA
  refine seq_do hA rfl rfl rfl (does_move rfl) ?_
  intro a hA
  refine seq_do hA rfl rfl rfl (does_move rfl) ?_
  intro a hA
  refine seq_do (v := .int .i64 (-(((N : Nat) : Int)))) hA rfl rfl rfl (does_un rfl (un_neg (i64In (by omega) (by omega)))) ?_
  intro a hA
  refine seq_do (v := .int .i64 (((N : Nat) : Int))) hA rfl rfl rfl (does_builtin rfl (run_maxI (by split <;> omega))) ?_
  intro a hA
  refine seq_call hA rfl rfl rfl (enters_func  rfl rfl (fun w => by kernel_rfl)) (zpowerT_any (n := N) ⟨(hS.rd 2 rfl), hs15.nil, hs15.cap⟩ ⟨(hS.rd 1 rfl), hs16.nil, hs16.cap⟩ ⟨(hS.rd 0 rfl), hs17.nil, hs17.cap⟩ (spX_len hu hv) (spY_len hu hv) (spD_len hu hv) (spD_ne u v) (spX_mk u v) (spY_mk u v) hu hv h1 h2 hB) ?_
  rintro _ w24 ⟨X, Y, D, ⟨hD9, hX9, hY9, lX9, lY9, lD9⟩, po1, poc1, po2, poc2, po3, poc3, rfl, hs21, hs22, hs23, hb20⟩
  replace hS := hS.call hb20
  replace hS := hS.addR hs21.rd
  replace hS := hS.addR hs22.rd
  replace hS := hS.addR hs23.rd
  refine ⟨_, rfl, ?_⟩
  intro a hA
  refine seq_do hA rfl rfl rfl (does_move rfl) ?_
  intro a hA
  refine seq_do (v := .agg #[.bool ((rb X)), .slice po1 ((words X.natAbs).length) poc1, .bool ((rb Y)), .slice po2 ((words Y.natAbs).length) poc2, .slice po3 ((words D).length) poc3]) hA rfl rfl rfl (does_extract (vs := [.agg #[.bool ((rb X)), .slice po1 ((words X.natAbs).length) poc1, .bool ((rb Y)), .slice po2 ((words Y.natAbs).length) poc2, .slice po3 ((words D).length) poc3], .int .i64 0]) rfl rfl) ?_
  intro a hA
  refine seq_do (v := .int .i64 0) hA rfl rfl rfl (does_extract (vs := [.agg #[.bool ((rb X)), .slice po1 ((words X.natAbs).length) poc1, .bool ((rb Y)), .slice po2 ((words Y.natAbs).length) poc2, .slice po3 ((words D).length) poc3], .int .i64 0]) rfl rfl) ?_
  intro a hA
  refine seq_new (vs := [.bool false, .slice none 0 0, .bool false, .slice none 0 0, .slice none 0 0]) (t := 48) hA hS rfl rfl rfl (fun g => .pointer (some ⟨g, 0, none⟩)) (does_alloc (z := .agg #[.bool false, .slice none 0 0, .bool false, .slice none 0 0, .slice none 0 0]) (by kernel_rfl) rfl) rfl ?_
  intro g25 w26 hS a hA
  refine seq_store (us := [.bool ((rb X)), .slice po1 ((words X.natAbs).length) poc1, .bool ((rb Y)), .slice po2 ((words Y.natAbs).length) poc2, .slice po3 ((words D).length) poc3]) hA hS rfl rfl (sets_store (cs := [.bool ((rb X)), .slice po1 ((words X.natAbs).length) poc1, .bool ((rb Y)), .slice po2 ((words Y.natAbs).length) poc2, .slice po3 ((words D).length) poc3]) rfl rfl rfl (by kernel_rfl) hS 0 rfl rfl rfl) 0 rfl rfl rfl rfl ?_
  intro w27 hS
  refine seq_do hA rfl rfl rfl (does_assign rfl) ?_
  intro a hA
  refine seq_end ?_
  refine hK13 _ _ ?_
  refine wp_seq_k (fun K28 hK28 => ?_)
  refine wp_seq_k (fun K29 hK29 => ?_)
  refine wp_region_lit ?_
  refine seq_do hA rfl rfl rfl (does_move rfl) ?_
  intro a hA
  refine seq_do (v := .bool false) hA rfl rfl rfl (does_bin rfl rfl (fun w => by kernel_rfl)) ?_
  intro a hA
  refine seq_end ?_
  refine hK29 _ _ ?_
  refine wp_cond_false (hA.ev rfl) ?_
  refine wp_skip ?_
  refine hK28 _ _ ?_
  refine wp_seq_k (fun K30 hK30 => ?_)
  refine wp_seq_k (fun K31 hK31 => ?_)
  refine wp_region_lit ?_
  refine seq_do hA rfl rfl rfl (does_move rfl) ?_
  intro a hA
  refine seq_do (v := .bool false) hA rfl rfl rfl (does_bin rfl rfl (fun w => (bin_lss w).trans (by rw [show (decide (((N : Nat) : Int) < 0)) = false from (decide_eq_false (by omega))]))) ?_
  intro a hA
  refine seq_end ?_
  refine hK31 _ _ ?_
  refine wp_cond_false (hA.ev rfl) ?_
  refine wp_skip ?_
  refine hK30 _ _ ?_
  refine wp_seq_k (fun K32 hK32 => ?_)
  refine wp_region_lit ?_
  refine seq_do (v := .agg #[.bool ((rb X)), .slice po1 ((words X.natAbs).length) poc1, .bool ((rb Y)), .slice po2 ((words Y.natAbs).length) poc2, .slice po3 ((words D).length) poc3]) hA rfl rfl rfl (does_loadS hS ExV_isS_48 rfl 0 rfl (cs := [.bool ((rb X)), .slice po1 ((words X.natAbs).length) poc1, .bool ((rb Y)), .slice po2 ((words Y.natAbs).length) poc2, .slice po3 ((words D).length) poc3]) rfl rfl) ?_
  intro a hA
  refine seq_call hA rfl rfl rfl (enters_func  rfl rfl (fun w => by kernel_rfl)) (zsettle_as ⟨(hS.rd 2 rfl), hs21.nil, hs21.cap⟩ ⟨(hS.rd 1 rfl), hs22.nil, hs22.cap⟩ ⟨(hS.rd 0 rfl), hs23.nil, hs23.cap⟩ (set_pw hD9 hX9 hY9) (by omega) (by omega) (by omega) hD9) ?_
  rintro _ w36 ⟨p33_1, p33_c1, p33_2, p33_c2, p33_3, p33_c3, p33_4, p33_c4, rfl, hn34, hb35⟩
  replace hS := hS.call hb35
  replace hS := hS.addR hn34.s1.rd
  replace hS := hS.addR hn34.s2.rd
  replace hS := hS.addR hn34.s3.rd
  replace hS := hS.addR hn34.s4.rd
  refine ⟨_, rfl, ?_⟩
  intro a hA
  refine seq_do (v := .agg #[.bool ((ratS (pwR u v N).1 (pwR u v N).2).1.b1), .slice p33_1 (((ratS (pwR u v N).1 (pwR u v N).2).1.t1).length) p33_c1, .slice p33_2 (((ratS (pwR u v N).1 (pwR u v N).2).1.q1).length) p33_c2, .bool ((ratS (pwR u v N).1 (pwR u v N).2).1.b2), .slice p33_3 (((ratS (pwR u v N).1 (pwR u v N).2).1.t2).length) p33_c3, .slice p33_4 (((ratS (pwR u v N).1 (pwR u v N).2).1.q2).length) p33_c4]) hA rfl rfl rfl (does_extract (vs := [.agg #[.bool ((ratS (pwR u v N).1 (pwR u v N).2).1.b1), .slice p33_1 (((ratS (pwR u v N).1 (pwR u v N).2).1.t1).length) p33_c1, .slice p33_2 (((ratS (pwR u v N).1 (pwR u v N).2).1.q1).length) p33_c2, .bool ((ratS (pwR u v N).1 (pwR u v N).2).1.b2), .slice p33_3 (((ratS (pwR u v N).1 (pwR u v N).2).1.t2).length) p33_c3, .slice p33_4 (((ratS (pwR u v N).1 (pwR u v N).2).1.q2).length) p33_c4], .int .i64 ((ratS (pwR u v N).1 (pwR u v N).2).2)]) rfl rfl) ?_
  intro a hA
  refine seq_do (v := .int .i64 ((ratS (pwR u v N).1 (pwR u v N).2).2)) hA rfl rfl rfl (does_extract (vs := [.agg #[.bool ((ratS (pwR u v N).1 (pwR u v N).2).1.b1), .slice p33_1 (((ratS (pwR u v N).1 (pwR u v N).2).1.t1).length) p33_c1, .slice p33_2 (((ratS (pwR u v N).1 (pwR u v N).2).1.q1).length) p33_c2, .bool ((ratS (pwR u v N).1 (pwR u v N).2).1.b2), .slice p33_3 (((ratS (pwR u v N).1 (pwR u v N).2).1.t2).length) p33_c3, .slice p33_4 (((ratS (pwR u v N).1 (pwR u v N).2).1.q2).length) p33_c4], .int .i64 ((ratS (pwR u v N).1 (pwR u v N).2).2)]) rfl rfl) ?_
  intro a hA
  refine seq_store (us := [.bool ((ratS (pwR u v N).1 (pwR u v N).2).1.b1), .slice p33_1 (((ratS (pwR u v N).1 (pwR u v N).2).1.t1).length) p33_c1, .slice p33_2 (((ratS (pwR u v N).1 (pwR u v N).2).1.q1).length) p33_c2, .bool ((ratS (pwR u v N).1 (pwR u v N).2).1.b2), .slice p33_3 (((ratS (pwR u v N).1 (pwR u v N).2).1.t2).length) p33_c3, .slice p33_4 (((ratS (pwR u v N).1 (pwR u v N).2).1.q2).length) p33_c4]) hA hS rfl rfl (sets_store (cs := [.bool ((ratS (pwR u v N).1 (pwR u v N).2).1.b1), .slice p33_1 (((ratS (pwR u v N).1 (pwR u v N).2).1.t1).length) p33_c1, .slice p33_2 (((ratS (pwR u v N).1 (pwR u v N).2).1.q1).length) p33_c2, .bool ((ratS (pwR u v N).1 (pwR u v N).2).1.b2), .slice p33_3 (((ratS (pwR u v N).1 (pwR u v N).2).1.t2).length) p33_c3, .slice p33_4 (((ratS (pwR u v N).1 (pwR u v N).2).1.q2).length) p33_c4]) rfl rfl rfl (by kernel_rfl) hS 1 rfl rfl rfl) 1 rfl rfl rfl rfl ?_
  intro w37 hS
  refine seq_do hA rfl rfl rfl (does_assign rfl) ?_
  intro a hA
  refine seq_end ?_
  refine hK32 _ _ ?_
  refine wp_ret ?_
  refine hret _ _ ?_
  refine ends (v := .tuple #[.agg #[.bool ((ratS (pwR u v N).1 (pwR u v N).2).1.b1), .slice p33_1 (((ratS (pwR u v N).1 (pwR u v N).2).1.t1).length) p33_c1, .slice p33_2 (((ratS (pwR u v N).1 (pwR u v N).2).1.q1).length) p33_c2, .bool ((ratS (pwR u v N).1 (pwR u v N).2).1.b2), .slice p33_3 (((ratS (pwR u v N).1 (pwR u v N).2).1.t2).length) p33_c3, .slice p33_4 (((ratS (pwR u v N).1 (pwR u v N).2).1.q2).length) p33_c4], .int .i64 ((ratS (pwR u v N).1 (pwR u v N).2).2)]) hA rfl (.cons (res_cell hS ExV_isS_26 rfl 1 rfl (cs := [.bool ((ratS (pwR u v N).1 (pwR u v N).2).1.b1), .slice p33_1 (((ratS (pwR u v N).1 (pwR u v N).2).1.t1).length) p33_c1, .slice p33_2 (((ratS (pwR u v N).1 (pwR u v N).2).1.q1).length) p33_c2, .bool ((ratS (pwR u v N).1 (pwR u v N).2).1.b2), .slice p33_3 (((ratS (pwR u v N).1 (pwR u v N).2).1.t2).length) p33_c3, .slice p33_4 (((ratS (pwR u v N).1 (pwR u v N).2).1.q2).length) p33_c4]) rfl rfl) (.cons (res_tmp rfl) .nil)) rfl ?_
  rw [exptQ_pos hu hv h1 h2, if_pos hB]
  exact ⟨p33_1, p33_c1, p33_2, p33_c2, p33_3, p33_c3, p33_4, p33_c4, rfl, ⟨⟨(hS.rd 3 rfl), hn34.s1.nil, hn34.s1.cap⟩, ⟨(hS.rd 2 rfl), hn34.s2.nil, hn34.s2.cap⟩, ⟨(hS.rd 1 rfl), hn34.s3.nil, hn34.s3.cap⟩, ⟨(hS.rd 0 rfl), hn34.s4.nil, hn34.s4.cap⟩⟩, hS.bel⟩
theorem exptPF_any {w : World} {u v : Rat} {a1 a2 a3 a4 : Option Addr} {ac1 ac2 ac3 ac4 : Nat} (ha : Nm w (Q6.rat u v) a1 ac1 a2 ac2 a3 ac3 a4 ac4) (hu : fitR u) (hv : fitR v) {N : Nat} (h1 : 1 ≤ N) (h2 : N ≤ 1024) (hB : pwB u v N = false) : Calls Try.prog 16 #[numV (Q6.rat u v) a1 ac1 a2 ac2 a3 ac3 a4 ac4, .int .i64 (((N : Nat) : Int))] w (AnsN w (exptQ (Q6.rat u v) (((N : Nat) : Int)))) := by
  have hS : St w w [] [(a4, words v.den), (a3, words v.num.natAbs), (a2, words u.den), (a1, words u.num.natAbs)] [] := ((((St.start w).addR ha.s1.rd).addR ha.s2.rd).addR ha.s3.rd).addR ha.s4.rd
  refine walk_of (l := [(0, .agg #[.bool (rb u.num), .slice a1 ((words u.num.natAbs).length) ac1, .slice a2 ((words u.den).length) ac2, .bool (rb v.num), .slice a3 ((words v.num.natAbs).length) ac3, .slice a4 ((words v.den).length) ac4]), (1, .int .i64 (((N : Nat) : Int)))]) Try.func16 rfl Try.ntmps16 rfl rfl ?_
  intro Q hret hnorm hP a hA
  refine wp_seq_k (fun K1 hK1 => ?_)
  refine wp_region_lit ?_
  refine seq_new (vs := [.bool (rb u.num), .slice a1 ((words u.num.natAbs).length) ac1, .slice a2 ((words u.den).length) ac2, .bool (rb v.num), .slice a3 ((words v.num.natAbs).length) ac3, .slice a4 ((words v.den).length) ac4]) (t := 26) hA hS rfl rfl rfl (fun g => .pointer (some ⟨g, 0, none⟩)) (does_box rfl rfl) rfl ?_
  intro g2 w3 hS a hA
  refine seq_new (vs := [.bool false, .slice none 0 0, .slice none 0 0, .bool false, .slice none 0 0, .slice none 0 0]) (t := 26) hA hS rfl rfl rfl (fun g => .pointer (some ⟨g, 0, none⟩)) (does_alloc (z := .agg #[.bool false, .slice none 0 0, .slice none 0 0, .bool false, .slice none 0 0, .slice none 0 0]) (by kernel_rfl) rfl) rfl ?_
  intro g4 w5 hS a hA
  refine seq_do hA rfl rfl rfl (does_assign rfl) ?_
  intro a hA
  refine seq_end ?_
  refine hK1 _ _ ?_
  refine wp_seq_k (fun K6 hK6 => ?_)
  refine wp_block ?_
  refine wp_seq_k (fun K7 hK7 => ?_)
  refine wp_region_lit ?_
  refine seq_do (v := .agg #[.bool (rb u.num), .slice a1 ((words u.num.natAbs).length) ac1, .slice a2 ((words u.den).length) ac2, .bool (rb v.num), .slice a3 ((words v.num.natAbs).length) ac3, .slice a4 ((words v.den).length) ac4]) hA rfl rfl rfl (does_loadS hS ExV_isS_26 rfl 1 rfl (cs := [.bool (rb u.num), .slice a1 ((words u.num.natAbs).length) ac1, .slice a2 ((words u.den).length) ac2, .bool (rb v.num), .slice a3 ((words v.num.natAbs).length) ac3, .slice a4 ((words v.den).length) ac4]) rfl rfl) ?_
  intro a hA
  refine seq_call hA rfl rfl rfl (enters_func  rfl rfl (fun w => by kernel_rfl)) (soundQ_any (show Nm _ (Q6.rat u v) a1 ac1 a2 ac2 a3 ac3 a4 ac4 from ⟨⟨(hS.rd 3 rfl), ha.s1.nil, ha.s1.cap⟩, ⟨(hS.rd 2 rfl), ha.s2.nil, ha.s2.cap⟩, ⟨(hS.rd 1 rfl), ha.s3.nil, ha.s3.cap⟩, ⟨(hS.rd 0 rfl), ha.s4.nil, ha.s4.cap⟩⟩) (lenQ_rat hu hv) (soundQ_rat hu hv)) ?_
  rintro _ w9 ⟨rfl, hb8⟩
  replace hS := hS.call hb8
  refine ⟨_, rfl, ?_⟩
  intro a hA
  refine seq_do (v := .bool false) hA rfl rfl rfl (does_un rfl un_not) ?_
  intro a hA
  refine seq_do hA rfl rfl rfl (does_assign rfl) ?_
  intro a hA
  refine seq_end ?_
  refine hK7 _ _ ?_
  refine wp_cond_false (hA.ev rfl) ?_
  refine wp_seq_k (fun K10 hK10 => ?_)
  refine wp_region_lit ?_
  refine seq_do hA rfl rfl rfl (does_move rfl) ?_
  intro a hA
  refine seq_do (v := .bool false) hA rfl rfl rfl (does_bin rfl rfl (fun w => (bin_lss w).trans (by rw [show (decide (((N : Nat) : Int) < -1024)) = false from (decide_eq_false (by omega))]))) ?_
  intro a hA
  refine seq_do hA rfl rfl rfl (does_move rfl) ?_
  intro a hA
  refine seq_do hA rfl rfl rfl (does_move rfl) ?_
  intro a hA
  refine seq_do (v := .bool false) hA rfl rfl rfl (does_bin rfl rfl (fun w => (bin_gtr w).trans (by rw [show (decide (1024 < ((N : Nat) : Int))) = false from (decide_eq_false (by omega))]))) ?_
  intro a hA
  refine seq_do (v := .bool false) hA rfl rfl rfl (does_pick rfl rfl rfl rfl) ?_
  intro a hA
  refine seq_do hA rfl rfl rfl (does_assign rfl) ?_
  intro a hA
  refine seq_end ?_
  refine hK10 _ _ ?_
  refine wp_cond_false (hA.ev rfl) ?_
  refine wp_seq_k (fun K11 hK11 => ?_)
  refine wp_region_lit ?_
  refine seq_do hA rfl rfl rfl (does_move rfl) ?_
  intro a hA
  refine seq_do (v := .bool false) hA rfl rfl rfl (does_bin rfl rfl (fun w => (bin_eql w).trans (by rw [show ((((N : Nat) : Int) == 0)) = false from (beq_eq_false_iff_ne.2 (by omega))]))) ?_
  intro a hA
  refine seq_do hA rfl rfl rfl (does_assign rfl) ?_
  intro a hA
  refine seq_end ?_
  refine hK11 _ _ ?_
  refine wp_cond_false (hA.ev rfl) ?_
  refine wp_seq_k (fun K12 hK12 => ?_)
  refine wp_region_lit ?_
  refine seq_do hA rfl rfl rfl (does_move rfl) ?_
  intro a hA
  refine seq_do (v := .bool false) hA rfl rfl rfl (does_bin rfl rfl (fun w => (bin_lss w).trans (by rw [show (decide (((N : Nat) : Int) < 0)) = false from (decide_eq_false (by omega))]))) ?_
  intro a hA
  refine seq_do hA rfl rfl rfl (does_move rfl) ?_
  intro a hA
  refine seq_skip hA rfl rfl rfl ?_
  intro a hA
  refine seq_skip hA rfl rfl rfl ?_
  intro a hA
  refine seq_do (v := .bool false) hA rfl rfl rfl (does_pick rfl rfl rfl rfl) ?_
  intro a hA
  refine seq_do hA rfl rfl rfl (does_assign rfl) ?_
  intro a hA
  refine seq_end ?_
  refine hK12 _ _ ?_
  refine wp_cond_false (hA.ev rfl) ?_
  refine wp_skip ?_
  refine hK6 _ _ ?_
  refine wp_seq_k (fun K13 hK13 => ?_)
  refine wp_region_lit ?_
  refine seq_do (v := .agg #[.bool (rb u.num), .slice a1 ((words u.num.natAbs).length) ac1, .slice a2 ((words u.den).length) ac2, .bool (rb v.num), .slice a3 ((words v.num.natAbs).length) ac3, .slice a4 ((words v.den).length) ac4]) hA rfl rfl rfl (does_loadS hS ExV_isS_26 rfl 1 rfl (cs := [.bool (rb u.num), .slice a1 ((words u.num.natAbs).length) ac1, .slice a2 ((words u.den).length) ac2, .bool (rb v.num), .slice a3 ((words v.num.natAbs).length) ac3, .slice a4 ((words v.den).length) ac4]) rfl rfl) ?_
  intro a hA
  refine seq_call hA rfl rfl rfl (enters_func  rfl rfl (fun w => by kernel_rfl)) (zspread_any (show Nm _ (Q6.rat u v) a1 ac1 a2 ac2 a3 ac3 a4 ac4 from ⟨⟨(hS.rd 3 rfl), ha.s1.nil, ha.s1.cap⟩, ⟨(hS.rd 2 rfl), ha.s2.nil, ha.s2.cap⟩, ⟨(hS.rd 1 rfl), ha.s3.nil, ha.s3.cap⟩, ⟨(hS.rd 0 rfl), ha.s4.nil, ha.s4.cap⟩⟩) hu hv) ?_
  rintro _ w19 ⟨p14_1, p14_c1, p14_2, p14_c2, p14_3, p14_c3, rfl, hs15, hs16, hs17, hb18⟩
  replace hS := hS.call hb18
  replace hS := hS.addR hs15.rd
  replace hS := hS.addR hs16.rd
  replace hS := hS.addR hs17.rd
  refine ⟨_, rfl, ?_⟩
  intro a hA
  refine seq_do hA rfl rfl rfl (does_move rfl) ?_
  intro a hA
  refine seq_do hA rfl rfl rfl (does_move rfl) ?_
  intro a hA
  refine seq_do (v := .int .i64 (-(((N : Nat) : Int)))) hA rfl rfl rfl (does_un rfl (un_neg (i64In (by omega) (by omega)))) ?_
  intro a hA
  refine seq_do (v := .int .i64 (((N : Nat) : Int))) hA rfl rfl rfl (does_builtin rfl (run_maxI (by split <;> omega))) ?_
  intro a hA
  refine seq_call hA rfl rfl rfl (enters_func  rfl rfl (fun w => by kernel_rfl)) (zpowerF_any (n := N) ⟨(hS.rd 2 rfl), hs15.nil, hs15.cap⟩ ⟨(hS.rd 1 rfl), hs16.nil, hs16.cap⟩ ⟨(hS.rd 0 rfl), hs17.nil, hs17.cap⟩ (spX_len hu hv) (spY_len hu hv) (spD_len hu hv) (spD_ne u v) (spX_mk u v) (spY_mk u v) hu hv h1 h2 hB) ?_
  rintro _ w21 ⟨rfl, hb20⟩
  replace hS := hS.call hb20
  refine ⟨_, rfl, ?_⟩
  intro a hA
  refine seq_do hA rfl rfl rfl (does_move rfl) ?_
  intro a hA
  refine seq_do (v := .agg #[.bool false, .slice none 0 0, .bool false, .slice none 0 0, .slice none 0 0]) hA rfl rfl rfl (does_extract (vs := [.agg #[.bool false, .slice none 0 0, .bool false, .slice none 0 0, .slice none 0 0], .int .i64 4]) rfl rfl) ?_
  intro a hA
  refine seq_do (v := .int .i64 4) hA rfl rfl rfl (does_extract (vs := [.agg #[.bool false, .slice none 0 0, .bool false, .slice none 0 0, .slice none 0 0], .int .i64 4]) rfl rfl) ?_
  intro a hA
  refine seq_new (vs := [.bool false, .slice none 0 0, .bool false, .slice none 0 0, .slice none 0 0]) (t := 48) hA hS rfl rfl rfl (fun g => .pointer (some ⟨g, 0, none⟩)) (does_alloc (z := .agg #[.bool false, .slice none 0 0, .bool false, .slice none 0 0, .slice none 0 0]) (by kernel_rfl) rfl) rfl ?_
  intro g22 w23 hS a hA
  refine seq_store (us := [.bool false, .slice none 0 0, .bool false, .slice none 0 0, .slice none 0 0]) hA hS rfl rfl (sets_store (cs := [.bool false, .slice none 0 0, .bool false, .slice none 0 0, .slice none 0 0]) rfl rfl rfl (by kernel_rfl) hS 0 rfl rfl rfl) 0 rfl rfl rfl rfl ?_
  intro w24 hS
  refine seq_do hA rfl rfl rfl (does_assign rfl) ?_
  intro a hA
  refine seq_end ?_
  refine hK13 _ _ ?_
  refine wp_seq_k (fun K25 hK25 => ?_)
  refine wp_seq_k (fun K26 hK26 => ?_)
  refine wp_region_lit ?_
  refine seq_do hA rfl rfl rfl (does_move rfl) ?_
  intro a hA
  refine seq_do (v := .bool true) hA rfl rfl rfl (does_bin rfl rfl (fun w => by kernel_rfl)) ?_
  intro a hA
  refine seq_end ?_
  refine hK26 _ _ ?_
  refine wp_cond_true (hA.ev rfl) ?_
  refine wp_seq_k (fun K27 hK27 => ?_)
  refine wp_region_lit ?_
  refine seq_do (v := .agg #[.bool false, .slice none 0 0, .slice none 0 0, .bool false, .slice none 0 0, .slice none 0 0]) hA rfl rfl rfl (does_build rfl (fun w => by kernel_rfl)) ?_
  intro a hA
  refine seq_do hA rfl rfl rfl (does_move rfl) ?_
  intro a hA
  refine seq_store (us := [.bool false, .slice none 0 0, .slice none 0 0, .bool false, .slice none 0 0, .slice none 0 0]) hA hS rfl rfl (sets_store (cs := [.bool false, .slice none 0 0, .slice none 0 0, .bool false, .slice none 0 0, .slice none 0 0]) rfl rfl rfl (by kernel_rfl) hS 1 rfl rfl rfl) 1 rfl rfl rfl rfl ?_
  intro w28 hS
  refine seq_do hA rfl rfl rfl (does_assign rfl) ?_
  intro a hA
  refine seq_end ?_
  refine hK27 _ _ ?_
  refine wp_ret ?_
  refine hret _ _ ?_
  refine ends (v := .tuple #[.agg #[.bool false, .slice none 0 0, .slice none 0 0, .bool false, .slice none 0 0, .slice none 0 0], .int .i64 4]) hA rfl (.cons (res_cell hS ExV_isS_26 rfl 1 rfl (cs := [.bool false, .slice none 0 0, .slice none 0 0, .bool false, .slice none 0 0, .slice none 0 0]) rfl rfl) (.cons (res_tmp rfl) .nil)) rfl ?_
  rw [exptQ_pos hu hv h1 h2, if_neg (by rw [hB]; decide)]
  exact ⟨none, 0, none, 0, none, 0, none, 0, rfl, ⟨(Sc.none _), (Sc.none _), (Sc.none _), (Sc.none _)⟩, hS.bel⟩
theorem exptMT_any {w : World} {u v : Rat} {a1 a2 a3 a4 : Option Addr} {ac1 ac2 ac3 ac4 : Nat} (ha : Nm w (Q6.rat u v) a1 ac1 a2 ac2 a3 ac3 a4 ac4) (hu : fitR u) (hv : fitR v) {N : Nat} (h1 : 1 ≤ N) (h2 : N ≤ 1024) (hz : ¬ (u = 0 ∧ v = 0)) (hB : pwB u v N = true) : Calls Try.prog 16 #[numV (Q6.rat u v) a1 ac1 a2 ac2 a3 ac3 a4 ac4, .int .i64 (-((N : Nat) : Int))] w (AnsN w (exptQ (Q6.rat u v) (-((N : Nat) : Int)))) := by
  have k1 : (words u.num.natAbs).length ≤ 512 := hu.1
  have k2 : (words v.num.natAbs).length ≤ 512 := hv.1
  have hS : St w w [] [(a4, words v.den), (a3, words v.num.natAbs), (a2, words u.den), (a1, words u.num.natAbs)] [] := ((((St.start w).addR ha.s1.rd).addR ha.s2.rd).addR ha.s3.rd).addR ha.s4.rd
  refine walk_of (l := [(0, .agg #[.bool (rb u.num), .slice a1 ((words u.num.natAbs).length) ac1, .slice a2 ((words u.den).length) ac2, .bool (rb v.num), .slice a3 ((words v.num.natAbs).length) ac3, .slice a4 ((words v.den).length) ac4]), (1, .int .i64 (-((N : Nat) : Int)))]) Try.func16 rfl Try.ntmps16 rfl rfl ?_
  intro Q hret hnorm hP a hA
  refine wp_seq_k (fun K1 hK1 => ?_)
  refine wp_region_lit ?_
  refine seq_new (vs := [.bool (rb u.num), .slice a1 ((words u.num.natAbs).length) ac1, .slice a2 ((words u.den).length) ac2, .bool (rb v.num), .slice a3 ((words v.num.natAbs).length) ac3, .slice a4 ((words v.den).length) ac4]) (t := 26) hA hS rfl rfl rfl (fun g => .pointer (some ⟨g, 0, none⟩)) (does_box rfl rfl) rfl ?_
  intro g2 w3 hS a hA
  refine seq_new (vs := [.bool false, .slice none 0 0, .slice none 0 0, .bool false, .slice none 0 0, .slice none 0 0]) (t := 26) hA hS rfl rfl rfl (fun g => .pointer (some ⟨g, 0, none⟩)) (does_alloc (z := .agg #[.bool false, .slice none 0 0, .slice none 0 0, .bool false, .slice none 0 0, .slice none 0 0]) (by kernel_rfl) rfl) rfl ?_
  intro g4 w5 hS a hA
  refine seq_do hA rfl rfl rfl (does_assign rfl) ?_
  intro a hA
  refine seq_end ?_
  refine hK1 _ _ ?_
  refine wp_seq_k (fun K6 hK6 => ?_)
  refine wp_block ?_
  refine wp_seq_k (fun K7 hK7 => ?_)
  refine wp_region_lit ?_
  refine seq_do (v := .agg #[.bool (rb u.num), .slice a1 ((words u.num.natAbs).length) ac1, .slice a2 ((words u.den).length) ac2, .bool (rb v.num), .slice a3 ((words v.num.natAbs).length) ac3, .slice a4 ((words v.den).length) ac4]) hA rfl rfl rfl (does_loadS hS ExV_isS_26 rfl 1 rfl (cs := [.bool (rb u.num), .slice a1 ((words u.num.natAbs).length) ac1, .slice a2 ((words u.den).length) ac2, .bool (rb v.num), .slice a3 ((words v.num.natAbs).length) ac3, .slice a4 ((words v.den).length) ac4]) rfl rfl) ?_
  intro a hA
  refine seq_call hA rfl rfl rfl (enters_func  rfl rfl (fun w => by kernel_rfl)) (soundQ_any (show Nm _ (Q6.rat u v) a1 ac1 a2 ac2 a3 ac3 a4 ac4 from ⟨⟨(hS.rd 3 rfl), ha.s1.nil, ha.s1.cap⟩, ⟨(hS.rd 2 rfl), ha.s2.nil, ha.s2.cap⟩, ⟨(hS.rd 1 rfl), ha.s3.nil, ha.s3.cap⟩, ⟨(hS.rd 0 rfl), ha.s4.nil, ha.s4.cap⟩⟩) (lenQ_rat hu hv) (soundQ_rat hu hv)) ?_
  rintro _ w9 ⟨rfl, hb8⟩
  replace hS := hS.call hb8
  refine ⟨_, rfl, ?_⟩
  intro a hA
  refine seq_do (v := .bool false) hA rfl rfl rfl (does_un rfl un_not) ?_
  intro a hA
  refine seq_do hA rfl rfl rfl (does_assign rfl) ?_
  intro a hA
  refine seq_end ?_
  refine hK7 _ _ ?_
  refine wp_cond_false (hA.ev rfl) ?_
  refine wp_seq_k (fun K10 hK10 => ?_)
  refine wp_region_lit ?_
  refine seq_do hA rfl rfl rfl (does_move rfl) ?_
  intro a hA
  refine seq_do (v := .bool false) hA rfl rfl rfl (does_bin rfl rfl (fun w => (bin_lss w).trans (by rw [show (decide (-((N : Nat) : Int) < -1024)) = false from (decide_eq_false (by omega))]))) ?_
  intro a hA
  refine seq_do hA rfl rfl rfl (does_move rfl) ?_
  intro a hA
  refine seq_do hA rfl rfl rfl (does_move rfl) ?_
  intro a hA
  refine seq_do (v := .bool false) hA rfl rfl rfl (does_bin rfl rfl (fun w => (bin_gtr w).trans (by rw [show (decide (1024 < -((N : Nat) : Int))) = false from (decide_eq_false (by omega))]))) ?_
  intro a hA
  refine seq_do (v := .bool false) hA rfl rfl rfl (does_pick rfl rfl rfl rfl) ?_
  intro a hA
  refine seq_do hA rfl rfl rfl (does_assign rfl) ?_
  intro a hA
  refine seq_end ?_
  refine hK10 _ _ ?_
  refine wp_cond_false (hA.ev rfl) ?_
  refine wp_seq_k (fun K11 hK11 => ?_)
  refine wp_region_lit ?_
  refine seq_do hA rfl rfl rfl (does_move rfl) ?_
  intro a hA
  refine seq_do (v := .bool false) hA rfl rfl rfl (does_bin rfl rfl (fun w => (bin_eql w).trans (by rw [show ((-((N : Nat) : Int) == 0)) = false from (beq_eq_false_iff_ne.2 (by omega))]))) ?_
  intro a hA
  refine seq_do hA rfl rfl rfl (does_assign rfl) ?_
  intro a hA
  refine seq_end ?_
  refine hK11 _ _ ?_
  refine wp_cond_false (hA.ev rfl) ?_
  refine wp_seq_k (fun K12 hK12 => ?_)
  refine wp_region_lit ?_
  refine seq_do hA rfl rfl rfl (does_move rfl) ?_
  intro a hA
  refine seq_do (v := .bool true) hA rfl rfl rfl (does_bin rfl rfl (fun w => (bin_lss w).trans (by rw [show (decide (-((N : Nat) : Int) < 0)) = true from (decide_eq_true (by omega))]))) ?_
  intro a hA
  refine seq_do hA rfl rfl rfl (does_move rfl) ?_
  intro a hA
  refine seq_do (v := .agg #[.bool (rb u.num), .slice a1 ((words u.num.natAbs).length) ac1, .slice a2 ((words u.den).length) ac2, .bool (rb v.num), .slice a3 ((words v.num.natAbs).length) ac3, .slice a4 ((words v.den).length) ac4]) hA rfl rfl rfl (does_loadS hS ExV_isS_26 rfl 1 rfl (cs := [.bool (rb u.num), .slice a1 ((words u.num.natAbs).length) ac1, .slice a2 ((words u.den).length) ac2, .bool (rb v.num), .slice a3 ((words v.num.natAbs).length) ac3, .slice a4 ((words v.den).length) ac4]) rfl rfl) ?_
  intro a hA
  refine seq_call hA rfl rfl rfl (enters_func  rfl rfl (fun w => by kernel_rfl)) ((show Calls Try.prog 32 #[.agg #[.bool (rb u.num), .slice a1 ((words u.num.natAbs).length) ac1, .slice a2 ((words u.den).length) ac2, .bool (rb v.num), .slice a3 ((words v.num.natAbs).length) ac3, .slice a4 ((words v.den).length) ac4]] _ (fun e w' => e = .returned (.bool false) ∧ _) from (((zero_rat u v).trans (decide_eq_false hz)) ▸ isZero_any (by omega) (by omega)))) ?_
  rintro _ w14 ⟨rfl, hb13⟩
  replace hS := hS.call hb13
  refine ⟨_, rfl, ?_⟩
  intro a hA
  refine seq_do (v := .bool false) hA rfl rfl rfl (does_pick rfl rfl rfl rfl) ?_
  intro a hA
  refine seq_do hA rfl rfl rfl (does_assign rfl) ?_
  intro a hA
  refine seq_end ?_
  refine hK12 _ _ ?_
  refine wp_cond_false (hA.ev rfl) ?_
  refine wp_skip ?_
  refine hK6 _ _ ?_
  refine wp_seq_k (fun K15 hK15 => ?_)
  refine wp_region_lit ?_
  refine seq_do (v := .agg #[.bool (rb u.num), .slice a1 ((words u.num.natAbs).length) ac1, .slice a2 ((words u.den).length) ac2, .bool (rb v.num), .slice a3 ((words v.num.natAbs).length) ac3, .slice a4 ((words v.den).length) ac4]) hA rfl rfl rfl (does_loadS hS ExV_isS_26 rfl 1 rfl (cs := [.bool (rb u.num), .slice a1 ((words u.num.natAbs).length) ac1, .slice a2 ((words u.den).length) ac2, .bool (rb v.num), .slice a3 ((words v.num.natAbs).length) ac3, .slice a4 ((words v.den).length) ac4]) rfl rfl) ?_
  intro a hA
  refine seq_call hA rfl rfl rfl (enters_func  rfl rfl (fun w => by kernel_rfl)) (zspread_any (show Nm _ (Q6.rat u v) a1 ac1 a2 ac2 a3 ac3 a4 ac4 from ⟨⟨(hS.rd 3 rfl), ha.s1.nil, ha.s1.cap⟩, ⟨(hS.rd 2 rfl), ha.s2.nil, ha.s2.cap⟩, ⟨(hS.rd 1 rfl), ha.s3.nil, ha.s3.cap⟩, ⟨(hS.rd 0 rfl), ha.s4.nil, ha.s4.cap⟩⟩) hu hv) ?_
  rintro _ w21 ⟨p16_1, p16_c1, p16_2, p16_c2, p16_3, p16_c3, rfl, hs17, hs18, hs19, hb20⟩
  replace hS := hS.call hb20
  replace hS := hS.addR hs17.rd
  replace hS := hS.addR hs18.rd
  replace hS := hS.addR hs19.rd
  refine ⟨_, rfl, ?_⟩
  intro a hA
  refine seq_do hA rfl rfl rfl (does_move rfl) ?_
  intro a hA
  refine seq_do hA rfl rfl rfl (does_move rfl) ?_
  intro a hA
  refine seq_do (v := .int .i64 (-(-((N : Nat) : Int)))) hA rfl rfl rfl (does_un rfl (un_neg (i64In (by omega) (by omega)))) ?_
  intro a hA
  refine seq_do (v := .int .i64 (((N : Nat) : Int))) hA rfl rfl rfl (does_builtin rfl (run_maxI (by split <;> omega))) ?_
  intro a hA
  refine seq_call hA rfl rfl rfl (enters_func  rfl rfl (fun w => by kernel_rfl)) (zpowerT_any (n := N) ⟨(hS.rd 2 rfl), hs17.nil, hs17.cap⟩ ⟨(hS.rd 1 rfl), hs18.nil, hs18.cap⟩ ⟨(hS.rd 0 rfl), hs19.nil, hs19.cap⟩ (spX_len hu hv) (spY_len hu hv) (spD_len hu hv) (spD_ne u v) (spX_mk u v) (spY_mk u v) hu hv h1 h2 hB) ?_
  rintro _ w26 ⟨X, Y, D, ⟨hD9, hX9, hY9, lX9, lY9, lD9⟩, po1, poc1, po2, poc2, po3, poc3, rfl, hs23, hs24, hs25, hb22⟩
  replace hS := hS.call hb22
  replace hS := hS.addR hs23.rd
  replace hS := hS.addR hs24.rd
  replace hS := hS.addR hs25.rd
  refine ⟨_, rfl, ?_⟩
  intro a hA
  refine seq_do hA rfl rfl rfl (does_move rfl) ?_
  intro a hA
  refine seq_do (v := .agg #[.bool ((rb X)), .slice po1 ((words X.natAbs).length) poc1, .bool ((rb Y)), .slice po2 ((words Y.natAbs).length) poc2, .slice po3 ((words D).length) poc3]) hA rfl rfl rfl (does_extract (vs := [.agg #[.bool ((rb X)), .slice po1 ((words X.natAbs).length) poc1, .bool ((rb Y)), .slice po2 ((words Y.natAbs).length) poc2, .slice po3 ((words D).length) poc3], .int .i64 0]) rfl rfl) ?_
  intro a hA
  refine seq_do (v := .int .i64 0) hA rfl rfl rfl (does_extract (vs := [.agg #[.bool ((rb X)), .slice po1 ((words X.natAbs).length) poc1, .bool ((rb Y)), .slice po2 ((words Y.natAbs).length) poc2, .slice po3 ((words D).length) poc3], .int .i64 0]) rfl rfl) ?_
  intro a hA
  refine seq_new (vs := [.bool false, .slice none 0 0, .bool false, .slice none 0 0, .slice none 0 0]) (t := 48) hA hS rfl rfl rfl (fun g => .pointer (some ⟨g, 0, none⟩)) (does_alloc (z := .agg #[.bool false, .slice none 0 0, .bool false, .slice none 0 0, .slice none 0 0]) (by kernel_rfl) rfl) rfl ?_
  intro g27 w28 hS a hA
  refine seq_store (us := [.bool ((rb X)), .slice po1 ((words X.natAbs).length) poc1, .bool ((rb Y)), .slice po2 ((words Y.natAbs).length) poc2, .slice po3 ((words D).length) poc3]) hA hS rfl rfl (sets_store (cs := [.bool ((rb X)), .slice po1 ((words X.natAbs).length) poc1, .bool ((rb Y)), .slice po2 ((words Y.natAbs).length) poc2, .slice po3 ((words D).length) poc3]) rfl rfl rfl (by kernel_rfl) hS 0 rfl rfl rfl) 0 rfl rfl rfl rfl ?_
  intro w29 hS
  refine seq_do hA rfl rfl rfl (does_assign rfl) ?_
  intro a hA
  refine seq_end ?_
  refine hK15 _ _ ?_
  refine wp_seq_k (fun K30 hK30 => ?_)
  refine wp_seq_k (fun K31 hK31 => ?_)
  refine wp_region_lit ?_
  refine seq_do hA rfl rfl rfl (does_move rfl) ?_
  intro a hA
  refine seq_do (v := .bool false) hA rfl rfl rfl (does_bin rfl rfl (fun w => by kernel_rfl)) ?_
  intro a hA
  refine seq_end ?_
  refine hK31 _ _ ?_
  refine wp_cond_false (hA.ev rfl) ?_
  refine wp_skip ?_
  refine hK30 _ _ ?_
  refine wp_seq_k (fun K32 hK32 => ?_)
  refine wp_seq_k (fun K33 hK33 => ?_)
  refine wp_region_lit ?_
  refine seq_do hA rfl rfl rfl (does_move rfl) ?_
  intro a hA
  refine seq_do (v := .bool true) hA rfl rfl rfl (does_bin rfl rfl (fun w => (bin_lss w).trans (by rw [show (decide (-((N : Nat) : Int) < 0)) = true from (decide_eq_true (by omega))]))) ?_
  intro a hA
  refine seq_end ?_
  refine hK33 _ _ ?_
  refine wp_cond_true (hA.ev rfl) ?_
  refine wp_region_lit ?_
  refine seq_do (v := .agg #[.bool ((rb X)), .slice po1 ((words X.natAbs).length) poc1, .bool ((rb Y)), .slice po2 ((words Y.natAbs).length) poc2, .slice po3 ((words D).length) poc3]) hA rfl rfl rfl (does_loadS hS ExV_isS_48 rfl 0 rfl (cs := [.bool ((rb X)), .slice po1 ((words X.natAbs).length) poc1, .bool ((rb Y)), .slice po2 ((words Y.natAbs).length) poc2, .slice po3 ((words D).length) poc3]) rfl rfl) ?_
  intro a hA
  refine seq_call hA rfl rfl rfl (enters_func  rfl rfl (fun w => by kernel_rfl)) (zinv_any ⟨(hS.rd 2 rfl), hs23.nil, hs23.cap⟩ ⟨(hS.rd 1 rfl), hs24.nil, hs24.cap⟩ ⟨(hS.rd 0 rfl), hs25.nil, hs25.cap⟩ (by omega) (by omega) (by omega)) ?_
  rintro _ w39 ⟨p34_1, p34_c1, p34_2, p34_c2, p34_3, p34_c3, rfl, hs35, hs36, hs37, hb38⟩
  replace hS := hS.call hb38
  replace hS := hS.addR hs35.rd
  replace hS := hS.addR hs36.rd
  replace hS := hS.addR hs37.rd
  refine ⟨_, rfl, ?_⟩
  intro a hA
  refine seq_store (us := [.bool ((rb (ivX X Y D))), .slice p34_1 ((words (ivX X Y D).natAbs).length) p34_c1, .bool ((rb (ivY X Y D))), .slice p34_2 ((words (ivY X Y D).natAbs).length) p34_c2, .slice p34_3 ((words (ivD X Y)).length) p34_c3]) hA hS rfl rfl (sets_store (cs := [.bool ((rb (ivX X Y D))), .slice p34_1 ((words (ivX X Y D).natAbs).length) p34_c1, .bool ((rb (ivY X Y D))), .slice p34_2 ((words (ivY X Y D).natAbs).length) p34_c2, .slice p34_3 ((words (ivD X Y)).length) p34_c3]) rfl rfl rfl (by kernel_rfl) hS 0 rfl rfl rfl) 0 rfl rfl rfl rfl ?_
  intro w40 hS
  refine seq_end ?_
  refine hK32 _ _ ?_
  refine wp_seq_k (fun K41 hK41 => ?_)
  refine wp_region_lit ?_
  refine seq_do (v := .agg #[.bool ((rb (ivX X Y D))), .slice p34_1 ((words (ivX X Y D).natAbs).length) p34_c1, .bool ((rb (ivY X Y D))), .slice p34_2 ((words (ivY X Y D).natAbs).length) p34_c2, .slice p34_3 ((words (ivD X Y)).length) p34_c3]) hA rfl rfl rfl (does_loadS hS ExV_isS_48 rfl 0 rfl (cs := [.bool ((rb (ivX X Y D))), .slice p34_1 ((words (ivX X Y D).natAbs).length) p34_c1, .bool ((rb (ivY X Y D))), .slice p34_2 ((words (ivY X Y D).natAbs).length) p34_c2, .slice p34_3 ((words (ivD X Y)).length) p34_c3]) rfl rfl) ?_
  intro a hA
  refine seq_call hA rfl rfl rfl (enters_func  rfl rfl (fun w => by kernel_rfl)) (zsettle_as ⟨(hS.rd 2 rfl), hs35.nil, hs35.cap⟩ ⟨(hS.rd 1 rfl), hs36.nil, hs36.cap⟩ ⟨(hS.rd 0 rfl), hs37.nil, hs37.cap⟩ (set_iv hD9 hX9 hY9 (mk_ne hX9 hY9 (pwR_ne hz N))) (Nat.le_trans (ivX_len lX9 lD9) (by decide)) (Nat.le_trans (ivY_len lY9 lD9) (by decide)) (Nat.le_trans (ivD_len lX9 lY9) (by decide)) (ivD_ne (mk_ne hX9 hY9 (pwR_ne hz N)))) ?_
  rintro _ w45 ⟨p42_1, p42_c1, p42_2, p42_c2, p42_3, p42_c3, p42_4, p42_c4, rfl, hn43, hb44⟩
  replace hS := hS.call hb44
  replace hS := hS.addR hn43.s1.rd
  replace hS := hS.addR hn43.s2.rd
  replace hS := hS.addR hn43.s3.rd
  replace hS := hS.addR hn43.s4.rd
  refine ⟨_, rfl, ?_⟩
  intro a hA
  refine seq_do (v := .agg #[.bool ((ratS (ivR (pwR u v N)).1 (ivR (pwR u v N)).2).1.b1), .slice p42_1 (((ratS (ivR (pwR u v N)).1 (ivR (pwR u v N)).2).1.t1).length) p42_c1, .slice p42_2 (((ratS (ivR (pwR u v N)).1 (ivR (pwR u v N)).2).1.q1).length) p42_c2, .bool ((ratS (ivR (pwR u v N)).1 (ivR (pwR u v N)).2).1.b2), .slice p42_3 (((ratS (ivR (pwR u v N)).1 (ivR (pwR u v N)).2).1.t2).length) p42_c3, .slice p42_4 (((ratS (ivR (pwR u v N)).1 (ivR (pwR u v N)).2).1.q2).length) p42_c4]) hA rfl rfl rfl (does_extract (vs := [.agg #[.bool ((ratS (ivR (pwR u v N)).1 (ivR (pwR u v N)).2).1.b1), .slice p42_1 (((ratS (ivR (pwR u v N)).1 (ivR (pwR u v N)).2).1.t1).length) p42_c1, .slice p42_2 (((ratS (ivR (pwR u v N)).1 (ivR (pwR u v N)).2).1.q1).length) p42_c2, .bool ((ratS (ivR (pwR u v N)).1 (ivR (pwR u v N)).2).1.b2), .slice p42_3 (((ratS (ivR (pwR u v N)).1 (ivR (pwR u v N)).2).1.t2).length) p42_c3, .slice p42_4 (((ratS (ivR (pwR u v N)).1 (ivR (pwR u v N)).2).1.q2).length) p42_c4], .int .i64 ((ratS (ivR (pwR u v N)).1 (ivR (pwR u v N)).2).2)]) rfl rfl) ?_
  intro a hA
  refine seq_do (v := .int .i64 ((ratS (ivR (pwR u v N)).1 (ivR (pwR u v N)).2).2)) hA rfl rfl rfl (does_extract (vs := [.agg #[.bool ((ratS (ivR (pwR u v N)).1 (ivR (pwR u v N)).2).1.b1), .slice p42_1 (((ratS (ivR (pwR u v N)).1 (ivR (pwR u v N)).2).1.t1).length) p42_c1, .slice p42_2 (((ratS (ivR (pwR u v N)).1 (ivR (pwR u v N)).2).1.q1).length) p42_c2, .bool ((ratS (ivR (pwR u v N)).1 (ivR (pwR u v N)).2).1.b2), .slice p42_3 (((ratS (ivR (pwR u v N)).1 (ivR (pwR u v N)).2).1.t2).length) p42_c3, .slice p42_4 (((ratS (ivR (pwR u v N)).1 (ivR (pwR u v N)).2).1.q2).length) p42_c4], .int .i64 ((ratS (ivR (pwR u v N)).1 (ivR (pwR u v N)).2).2)]) rfl rfl) ?_
  intro a hA
  refine seq_store (us := [.bool ((ratS (ivR (pwR u v N)).1 (ivR (pwR u v N)).2).1.b1), .slice p42_1 (((ratS (ivR (pwR u v N)).1 (ivR (pwR u v N)).2).1.t1).length) p42_c1, .slice p42_2 (((ratS (ivR (pwR u v N)).1 (ivR (pwR u v N)).2).1.q1).length) p42_c2, .bool ((ratS (ivR (pwR u v N)).1 (ivR (pwR u v N)).2).1.b2), .slice p42_3 (((ratS (ivR (pwR u v N)).1 (ivR (pwR u v N)).2).1.t2).length) p42_c3, .slice p42_4 (((ratS (ivR (pwR u v N)).1 (ivR (pwR u v N)).2).1.q2).length) p42_c4]) hA hS rfl rfl (sets_store (cs := [.bool ((ratS (ivR (pwR u v N)).1 (ivR (pwR u v N)).2).1.b1), .slice p42_1 (((ratS (ivR (pwR u v N)).1 (ivR (pwR u v N)).2).1.t1).length) p42_c1, .slice p42_2 (((ratS (ivR (pwR u v N)).1 (ivR (pwR u v N)).2).1.q1).length) p42_c2, .bool ((ratS (ivR (pwR u v N)).1 (ivR (pwR u v N)).2).1.b2), .slice p42_3 (((ratS (ivR (pwR u v N)).1 (ivR (pwR u v N)).2).1.t2).length) p42_c3, .slice p42_4 (((ratS (ivR (pwR u v N)).1 (ivR (pwR u v N)).2).1.q2).length) p42_c4]) rfl rfl rfl (by kernel_rfl) hS 1 rfl rfl rfl) 1 rfl rfl rfl rfl ?_
  intro w46 hS
  refine seq_do hA rfl rfl rfl (does_assign rfl) ?_
  intro a hA
  refine seq_end ?_
  refine hK41 _ _ ?_
  refine wp_ret ?_
  refine hret _ _ ?_
  refine ends (v := .tuple #[.agg #[.bool ((ratS (ivR (pwR u v N)).1 (ivR (pwR u v N)).2).1.b1), .slice p42_1 (((ratS (ivR (pwR u v N)).1 (ivR (pwR u v N)).2).1.t1).length) p42_c1, .slice p42_2 (((ratS (ivR (pwR u v N)).1 (ivR (pwR u v N)).2).1.q1).length) p42_c2, .bool ((ratS (ivR (pwR u v N)).1 (ivR (pwR u v N)).2).1.b2), .slice p42_3 (((ratS (ivR (pwR u v N)).1 (ivR (pwR u v N)).2).1.t2).length) p42_c3, .slice p42_4 (((ratS (ivR (pwR u v N)).1 (ivR (pwR u v N)).2).1.q2).length) p42_c4], .int .i64 ((ratS (ivR (pwR u v N)).1 (ivR (pwR u v N)).2).2)]) hA rfl (.cons (res_cell hS ExV_isS_26 rfl 1 rfl (cs := [.bool ((ratS (ivR (pwR u v N)).1 (ivR (pwR u v N)).2).1.b1), .slice p42_1 (((ratS (ivR (pwR u v N)).1 (ivR (pwR u v N)).2).1.t1).length) p42_c1, .slice p42_2 (((ratS (ivR (pwR u v N)).1 (ivR (pwR u v N)).2).1.q1).length) p42_c2, .bool ((ratS (ivR (pwR u v N)).1 (ivR (pwR u v N)).2).1.b2), .slice p42_3 (((ratS (ivR (pwR u v N)).1 (ivR (pwR u v N)).2).1.t2).length) p42_c3, .slice p42_4 (((ratS (ivR (pwR u v N)).1 (ivR (pwR u v N)).2).1.q2).length) p42_c4]) rfl rfl) (.cons (res_tmp rfl) .nil)) rfl ?_
  rw [exptQ_neg hu hv (by omega) h2 hz, if_pos hB]
  exact ⟨p42_1, p42_c1, p42_2, p42_c2, p42_3, p42_c3, p42_4, p42_c4, rfl, ⟨⟨(hS.rd 3 rfl), hn43.s1.nil, hn43.s1.cap⟩, ⟨(hS.rd 2 rfl), hn43.s2.nil, hn43.s2.cap⟩, ⟨(hS.rd 1 rfl), hn43.s3.nil, hn43.s3.cap⟩, ⟨(hS.rd 0 rfl), hn43.s4.nil, hn43.s4.cap⟩⟩, hS.bel⟩
theorem exptMF_any {w : World} {u v : Rat} {a1 a2 a3 a4 : Option Addr} {ac1 ac2 ac3 ac4 : Nat} (ha : Nm w (Q6.rat u v) a1 ac1 a2 ac2 a3 ac3 a4 ac4) (hu : fitR u) (hv : fitR v) {N : Nat} (h1 : 1 ≤ N) (h2 : N ≤ 1024) (hz : ¬ (u = 0 ∧ v = 0)) (hB : pwB u v N = false) : Calls Try.prog 16 #[numV (Q6.rat u v) a1 ac1 a2 ac2 a3 ac3 a4 ac4, .int .i64 (-((N : Nat) : Int))] w (AnsN w (exptQ (Q6.rat u v) (-((N : Nat) : Int)))) := by
  have k1 : (words u.num.natAbs).length ≤ 512 := hu.1
  have k2 : (words v.num.natAbs).length ≤ 512 := hv.1
  have hS : St w w [] [(a4, words v.den), (a3, words v.num.natAbs), (a2, words u.den), (a1, words u.num.natAbs)] [] := ((((St.start w).addR ha.s1.rd).addR ha.s2.rd).addR ha.s3.rd).addR ha.s4.rd
  refine walk_of (l := [(0, .agg #[.bool (rb u.num), .slice a1 ((words u.num.natAbs).length) ac1, .slice a2 ((words u.den).length) ac2, .bool (rb v.num), .slice a3 ((words v.num.natAbs).length) ac3, .slice a4 ((words v.den).length) ac4]), (1, .int .i64 (-((N : Nat) : Int)))]) Try.func16 rfl Try.ntmps16 rfl rfl ?_
  intro Q hret hnorm hP a hA
  refine wp_seq_k (fun K1 hK1 => ?_)
  refine wp_region_lit ?_
  refine seq_new (vs := [.bool (rb u.num), .slice a1 ((words u.num.natAbs).length) ac1, .slice a2 ((words u.den).length) ac2, .bool (rb v.num), .slice a3 ((words v.num.natAbs).length) ac3, .slice a4 ((words v.den).length) ac4]) (t := 26) hA hS rfl rfl rfl (fun g => .pointer (some ⟨g, 0, none⟩)) (does_box rfl rfl) rfl ?_
  intro g2 w3 hS a hA
  refine seq_new (vs := [.bool false, .slice none 0 0, .slice none 0 0, .bool false, .slice none 0 0, .slice none 0 0]) (t := 26) hA hS rfl rfl rfl (fun g => .pointer (some ⟨g, 0, none⟩)) (does_alloc (z := .agg #[.bool false, .slice none 0 0, .slice none 0 0, .bool false, .slice none 0 0, .slice none 0 0]) (by kernel_rfl) rfl) rfl ?_
  intro g4 w5 hS a hA
  refine seq_do hA rfl rfl rfl (does_assign rfl) ?_
  intro a hA
  refine seq_end ?_
  refine hK1 _ _ ?_
  refine wp_seq_k (fun K6 hK6 => ?_)
  refine wp_block ?_
  refine wp_seq_k (fun K7 hK7 => ?_)
  refine wp_region_lit ?_
  refine seq_do (v := .agg #[.bool (rb u.num), .slice a1 ((words u.num.natAbs).length) ac1, .slice a2 ((words u.den).length) ac2, .bool (rb v.num), .slice a3 ((words v.num.natAbs).length) ac3, .slice a4 ((words v.den).length) ac4]) hA rfl rfl rfl (does_loadS hS ExV_isS_26 rfl 1 rfl (cs := [.bool (rb u.num), .slice a1 ((words u.num.natAbs).length) ac1, .slice a2 ((words u.den).length) ac2, .bool (rb v.num), .slice a3 ((words v.num.natAbs).length) ac3, .slice a4 ((words v.den).length) ac4]) rfl rfl) ?_
  intro a hA
  refine seq_call hA rfl rfl rfl (enters_func  rfl rfl (fun w => by kernel_rfl)) (soundQ_any (show Nm _ (Q6.rat u v) a1 ac1 a2 ac2 a3 ac3 a4 ac4 from ⟨⟨(hS.rd 3 rfl), ha.s1.nil, ha.s1.cap⟩, ⟨(hS.rd 2 rfl), ha.s2.nil, ha.s2.cap⟩, ⟨(hS.rd 1 rfl), ha.s3.nil, ha.s3.cap⟩, ⟨(hS.rd 0 rfl), ha.s4.nil, ha.s4.cap⟩⟩) (lenQ_rat hu hv) (soundQ_rat hu hv)) ?_
  rintro _ w9 ⟨rfl, hb8⟩
  replace hS := hS.call hb8
  refine ⟨_, rfl, ?_⟩
  intro a hA
  refine seq_do (v := .bool false) hA rfl rfl rfl (does_un rfl un_not) ?_
  intro a hA
  refine seq_do hA rfl rfl rfl (does_assign rfl) ?_
  intro a hA
  refine seq_end ?_
  refine hK7 _ _ ?_
  refine wp_cond_false (hA.ev rfl) ?_
  refine wp_seq_k (fun K10 hK10 => ?_)
  refine wp_region_lit ?_
  refine seq_do hA rfl rfl rfl (does_move rfl) ?_
  intro a hA
  refine seq_do (v := .bool false) hA rfl rfl rfl (does_bin rfl rfl (fun w => (bin_lss w).trans (by rw [show (decide (-((N : Nat) : Int) < -1024)) = false from (decide_eq_false (by omega))]))) ?_
  intro a hA
  refine seq_do hA rfl rfl rfl (does_move rfl) ?_
  intro a hA
  refine seq_do hA rfl rfl rfl (does_move rfl) ?_
  intro a hA
  refine seq_do (v := .bool false) hA rfl rfl rfl (does_bin rfl rfl (fun w => (bin_gtr w).trans (by rw [show (decide (1024 < -((N : Nat) : Int))) = false from (decide_eq_false (by omega))]))) ?_
  intro a hA
  refine seq_do (v := .bool false) hA rfl rfl rfl (does_pick rfl rfl rfl rfl) ?_
  intro a hA
  refine seq_do hA rfl rfl rfl (does_assign rfl) ?_
  intro a hA
  refine seq_end ?_
  refine hK10 _ _ ?_
  refine wp_cond_false (hA.ev rfl) ?_
  refine wp_seq_k (fun K11 hK11 => ?_)
  refine wp_region_lit ?_
  refine seq_do hA rfl rfl rfl (does_move rfl) ?_
  intro a hA
  refine seq_do (v := .bool false) hA rfl rfl rfl (does_bin rfl rfl (fun w => (bin_eql w).trans (by rw [show ((-((N : Nat) : Int) == 0)) = false from (beq_eq_false_iff_ne.2 (by omega))]))) ?_
  intro a hA
  refine seq_do hA rfl rfl rfl (does_assign rfl) ?_
  intro a hA
  refine seq_end ?_
  refine hK11 _ _ ?_
  refine wp_cond_false (hA.ev rfl) ?_
  refine wp_seq_k (fun K12 hK12 => ?_)
  refine wp_region_lit ?_
  refine seq_do hA rfl rfl rfl (does_move rfl) ?_
  intro a hA
  refine seq_do (v := .bool true) hA rfl rfl rfl (does_bin rfl rfl (fun w => (bin_lss w).trans (by rw [show (decide (-((N : Nat) : Int) < 0)) = true from (decide_eq_true (by omega))]))) ?_
  intro a hA
  refine seq_do hA rfl rfl rfl (does_move rfl) ?_
  intro a hA
  refine seq_do (v := .agg #[.bool (rb u.num), .slice a1 ((words u.num.natAbs).length) ac1, .slice a2 ((words u.den).length) ac2, .bool (rb v.num), .slice a3 ((words v.num.natAbs).length) ac3, .slice a4 ((words v.den).length) ac4]) hA rfl rfl rfl (does_loadS hS ExV_isS_26 rfl 1 rfl (cs := [.bool (rb u.num), .slice a1 ((words u.num.natAbs).length) ac1, .slice a2 ((words u.den).length) ac2, .bool (rb v.num), .slice a3 ((words v.num.natAbs).length) ac3, .slice a4 ((words v.den).length) ac4]) rfl rfl) ?_
  intro a hA
  refine seq_call hA rfl rfl rfl (enters_func  rfl rfl (fun w => by kernel_rfl)) ((show Calls Try.prog 32 #[.agg #[.bool (rb u.num), .slice a1 ((words u.num.natAbs).length) ac1, .slice a2 ((words u.den).length) ac2, .bool (rb v.num), .slice a3 ((words v.num.natAbs).length) ac3, .slice a4 ((words v.den).length) ac4]] _ (fun e w' => e = .returned (.bool false) ∧ _) from (((zero_rat u v).trans (decide_eq_false hz)) ▸ isZero_any (by omega) (by omega)))) ?_
  rintro _ w14 ⟨rfl, hb13⟩
  replace hS := hS.call hb13
  refine ⟨_, rfl, ?_⟩
  intro a hA
  refine seq_do (v := .bool false) hA rfl rfl rfl (does_pick rfl rfl rfl rfl) ?_
  intro a hA
  refine seq_do hA rfl rfl rfl (does_assign rfl) ?_
  intro a hA
  refine seq_end ?_
  refine hK12 _ _ ?_
  refine wp_cond_false (hA.ev rfl) ?_
  refine wp_skip ?_
  refine hK6 _ _ ?_
  refine wp_seq_k (fun K15 hK15 => ?_)
  refine wp_region_lit ?_
  refine seq_do (v := .agg #[.bool (rb u.num), .slice a1 ((words u.num.natAbs).length) ac1, .slice a2 ((words u.den).length) ac2, .bool (rb v.num), .slice a3 ((words v.num.natAbs).length) ac3, .slice a4 ((words v.den).length) ac4]) hA rfl rfl rfl (does_loadS hS ExV_isS_26 rfl 1 rfl (cs := [.bool (rb u.num), .slice a1 ((words u.num.natAbs).length) ac1, .slice a2 ((words u.den).length) ac2, .bool (rb v.num), .slice a3 ((words v.num.natAbs).length) ac3, .slice a4 ((words v.den).length) ac4]) rfl rfl) ?_
  intro a hA
  refine seq_call hA rfl rfl rfl (enters_func  rfl rfl (fun w => by kernel_rfl)) (zspread_any (show Nm _ (Q6.rat u v) a1 ac1 a2 ac2 a3 ac3 a4 ac4 from ⟨⟨(hS.rd 3 rfl), ha.s1.nil, ha.s1.cap⟩, ⟨(hS.rd 2 rfl), ha.s2.nil, ha.s2.cap⟩, ⟨(hS.rd 1 rfl), ha.s3.nil, ha.s3.cap⟩, ⟨(hS.rd 0 rfl), ha.s4.nil, ha.s4.cap⟩⟩) hu hv) ?_
  rintro _ w21 ⟨p16_1, p16_c1, p16_2, p16_c2, p16_3, p16_c3, rfl, hs17, hs18, hs19, hb20⟩
  replace hS := hS.call hb20
  replace hS := hS.addR hs17.rd
  replace hS := hS.addR hs18.rd
  replace hS := hS.addR hs19.rd
  refine ⟨_, rfl, ?_⟩
  intro a hA
  refine seq_do hA rfl rfl rfl (does_move rfl) ?_
  intro a hA
  refine seq_do hA rfl rfl rfl (does_move rfl) ?_
  intro a hA
  refine seq_do (v := .int .i64 (-(-((N : Nat) : Int)))) hA rfl rfl rfl (does_un rfl (un_neg (i64In (by omega) (by omega)))) ?_
  intro a hA
  refine seq_do (v := .int .i64 (((N : Nat) : Int))) hA rfl rfl rfl (does_builtin rfl (run_maxI (by split <;> omega))) ?_
  intro a hA
  refine seq_call hA rfl rfl rfl (enters_func  rfl rfl (fun w => by kernel_rfl)) (zpowerF_any (n := N) ⟨(hS.rd 2 rfl), hs17.nil, hs17.cap⟩ ⟨(hS.rd 1 rfl), hs18.nil, hs18.cap⟩ ⟨(hS.rd 0 rfl), hs19.nil, hs19.cap⟩ (spX_len hu hv) (spY_len hu hv) (spD_len hu hv) (spD_ne u v) (spX_mk u v) (spY_mk u v) hu hv h1 h2 hB) ?_
  rintro _ w23 ⟨rfl, hb22⟩
  replace hS := hS.call hb22
  refine ⟨_, rfl, ?_⟩
  intro a hA
  refine seq_do hA rfl rfl rfl (does_move rfl) ?_
  intro a hA
  refine seq_do (v := .agg #[.bool false, .slice none 0 0, .bool false, .slice none 0 0, .slice none 0 0]) hA rfl rfl rfl (does_extract (vs := [.agg #[.bool false, .slice none 0 0, .bool false, .slice none 0 0, .slice none 0 0], .int .i64 4]) rfl rfl) ?_
  intro a hA
  refine seq_do (v := .int .i64 4) hA rfl rfl rfl (does_extract (vs := [.agg #[.bool false, .slice none 0 0, .bool false, .slice none 0 0, .slice none 0 0], .int .i64 4]) rfl rfl) ?_
  intro a hA
  refine seq_new (vs := [.bool false, .slice none 0 0, .bool false, .slice none 0 0, .slice none 0 0]) (t := 48) hA hS rfl rfl rfl (fun g => .pointer (some ⟨g, 0, none⟩)) (does_alloc (z := .agg #[.bool false, .slice none 0 0, .bool false, .slice none 0 0, .slice none 0 0]) (by kernel_rfl) rfl) rfl ?_
  intro g24 w25 hS a hA
  refine seq_store (us := [.bool false, .slice none 0 0, .bool false, .slice none 0 0, .slice none 0 0]) hA hS rfl rfl (sets_store (cs := [.bool false, .slice none 0 0, .bool false, .slice none 0 0, .slice none 0 0]) rfl rfl rfl (by kernel_rfl) hS 0 rfl rfl rfl) 0 rfl rfl rfl rfl ?_
  intro w26 hS
  refine seq_do hA rfl rfl rfl (does_assign rfl) ?_
  intro a hA
  refine seq_end ?_
  refine hK15 _ _ ?_
  refine wp_seq_k (fun K27 hK27 => ?_)
  refine wp_seq_k (fun K28 hK28 => ?_)
  refine wp_region_lit ?_
  refine seq_do hA rfl rfl rfl (does_move rfl) ?_
  intro a hA
  refine seq_do (v := .bool true) hA rfl rfl rfl (does_bin rfl rfl (fun w => by kernel_rfl)) ?_
  intro a hA
  refine seq_end ?_
  refine hK28 _ _ ?_
  refine wp_cond_true (hA.ev rfl) ?_
  refine wp_seq_k (fun K29 hK29 => ?_)
  refine wp_region_lit ?_
  refine seq_do (v := .agg #[.bool false, .slice none 0 0, .slice none 0 0, .bool false, .slice none 0 0, .slice none 0 0]) hA rfl rfl rfl (does_build rfl (fun w => by kernel_rfl)) ?_
  intro a hA
  refine seq_do hA rfl rfl rfl (does_move rfl) ?_
  intro a hA
  refine seq_store (us := [.bool false, .slice none 0 0, .slice none 0 0, .bool false, .slice none 0 0, .slice none 0 0]) hA hS rfl rfl (sets_store (cs := [.bool false, .slice none 0 0, .slice none 0 0, .bool false, .slice none 0 0, .slice none 0 0]) rfl rfl rfl (by kernel_rfl) hS 1 rfl rfl rfl) 1 rfl rfl rfl rfl ?_
  intro w30 hS
  refine seq_do hA rfl rfl rfl (does_assign rfl) ?_
  intro a hA
  refine seq_end ?_
  refine hK29 _ _ ?_
  refine wp_ret ?_
  refine hret _ _ ?_
  refine ends (v := .tuple #[.agg #[.bool false, .slice none 0 0, .slice none 0 0, .bool false, .slice none 0 0, .slice none 0 0], .int .i64 4]) hA rfl (.cons (res_cell hS ExV_isS_26 rfl 1 rfl (cs := [.bool false, .slice none 0 0, .slice none 0 0, .bool false, .slice none 0 0, .slice none 0 0]) rfl rfl) (.cons (res_tmp rfl) .nil)) rfl ?_
  rw [exptQ_neg hu hv (by omega) h2 hz, if_neg (by rw [hB]; decide)]
  exact ⟨none, 0, none, 0, none, 0, none, 0, rfl, ⟨(Sc.none _), (Sc.none _), (Sc.none _), (Sc.none _)⟩, hS.bel⟩
theorem exptQ_any {w : World} {q : Q6} {a1 a2 a3 a4 : Option Addr} {ac1 ac2 ac3 ac4 : Nat} (ha : Nm w q a1 ac1 a2 ac2 a3 ac3 a4 ac4) (hl : LenQ q) {n : Int} : Calls Try.prog 16 #[numV q a1 ac1 a2 ac2 a3 ac3 a4 ac4, .int .i64 n] w (AnsN w (exptQ q n)) := by
  rcases sound_cases ha with hs | ⟨u, v, rfl, hu, hv⟩
  · exact exptE_any ha hl hs
  by_cases n1 : n < -1024
  · exact exptA1_any ha hu hv n1
  by_cases n2 : 1024 < n
  · exact exptA2_any ha hu hv n2
  by_cases n3 : n = 0
  · subst n3
    exact expt0_any ha hu hv
  by_cases n4 : n < 0
  · obtain ⟨N, rfl⟩ : ∃ N : Nat, n = -(N : Int) := ⟨n.natAbs, by omega⟩
    by_cases hz : u = 0 ∧ v = 0
    · exact exptZ_any ha hu hv (by omega) (by omega) hz
    · cases hB : pwB u v N with
      | true => exact exptMT_any ha hu hv (by omega) (by omega) hz hB
      | false => exact exptMF_any ha hu hv (by omega) (by omega) hz hB
  · obtain ⟨N, rfl⟩ : ∃ N : Nat, n = (N : Int) := ⟨n.natAbs, by omega⟩
    cases hB : pwB u v N with
    | true => exact exptPT_any ha hu hv (by omega) (by omega) hB
    | false => exact exptPF_any ha hu hv (by omega) (by omega) hB
theorem exptQ_as {w : World} {q : Q6} {a1 a2 a3 a4 : Option Addr} {ac1 ac2 ac3 ac4 : Nat} (ha : Nm w q a1 ac1 a2 ac2 a3 ac3 a4 ac4) (hl : LenQ q) {n : Int} {z : Q6 × Int} (hz : exptQ q n = z) : Calls Try.prog 16 #[numV q a1 ac1 a2 ac2 a3 ac3 a4 ac4, .int .i64 n] w (AnsN w z) := hz ▸ exptQ_any ha hl
end Go.Proofs.Ytmibkfihcihphaa
namespace Go.Proofs.Ytmibkfihcihphaa
open Go.RowKit
set_option linter.unusedVariables false
set_option linter.unusedSimpArgs false
set_option maxRecDepth 100000
theorem BiP_is1_67 : Is1 Try.prog 67 := ⟨⟨_, Try.underlying67, rfl⟩, by kernel_rfl⟩
theorem BiP_isS_26 : IsS Try.prog 26 6 := ⟨⟨_, Try.underlying26⟩, by kernel_rfl⟩
theorem BiP_isS_70 : IsS Try.prog 70 2 := ⟨⟨_, Try.underlying70⟩, by kernel_rfl⟩
theorem mask_lt {k : Nat} (hk : k < 32) : 2 ^ k - 1 < 4294967296 := by
  have h3 : 2 ^ k ≤ 2 ^ 31 := Nat.pow_le_pow_right (by decide) (by omega)
  have h4 : (2 : Nat) ^ 31 = 2147483648 := rfl
  omega
theorem low_mask {b : Bool} {y c n : Nat} (hn : (c + 32 - 1) / 32 = n + 1) (hr : 0 < c % 32) : val ((rowL b y (n + 1)).set n ((rowL b y (n + 1)).getD n 0 &&& (2 ^ (c % 32) - 1))) = fld b y 0 c := by
  rw [mask_val (rowL_dig _ _ _) (rowL_len _ _ _), pw_two, ← Nat.pow_add, show 32 * n + c % 32 = c from by omega]
  exact rowL_mod (by omega)
theorem low_all {b : Bool} {y c : Nat} (hr : ¬ 0 < c % 32) : val (rowL b y ((c + 32 - 1) / 32)) = fld b y 0 c := by
  have h1 := rowL_mod (b := b) (y := y) (n := (c + 32 - 1) / 32) (c := c) (by omega)
  have h2 := val_lt (rowL_dig b y ((c + 32 - 1) / 32))
  rw [rowL_len, pw_two, show 32 * ((c + 32 - 1) / 32) = c from by omega] at h2
  rw [← h1, Nat.mod_eq_of_lt h2]
theorem lowest_row_any {w : World} {b : Bool} {ro : Option Addr} {rc y c : Nat} (hr : Rd w ro (words y)) (hy : (words y).length ≤ 600) (hc : c ≤ 16384) : Calls Try.prog 55 #[.agg #[.bool b, .slice ro (words y).length rc], .int .i64 ((c : Nat) : Int)] w (Row1 w (words (fld b y 0 c))) := by
  have hS : St w w [] [] [] := St.start w
  refine walk_of (l := [(0, .agg #[.bool b, .slice ro ((words y).length) rc]), (1, .int .i64 (((c : Nat) : Int)))]) Try.func55 rfl Try.ntmps55 rfl rfl ?_
  intro Q hret hnorm hP a hA
  refine wp_seq_k (fun K1 hK1 => ?_)
  refine wp_region_lit ?_
  refine seq_new (vs := [.bool b, .slice ro ((words y).length) rc]) (t := 70) hA hS rfl rfl rfl (fun g => .pointer (some ⟨g, 0, none⟩)) (does_box rfl rfl) rfl ?_
  intro g2 w3 hS a hA
  refine seq_do hA rfl rfl rfl (does_assign rfl) ?_
  intro a hA
  refine seq_end ?_
  refine hK1 _ _ ?_
  refine wp_seq_k (fun K4 hK4 => ?_)
  refine wp_region_lit ?_
  refine seq_do hA rfl rfl rfl (does_move rfl) ?_
  intro a hA
  refine seq_do (v := .int .i64 (((c + 32 : Nat) : Int))) hA rfl rfl rfl (does_bin rfl rfl (fun w => (bin_add (i64In (by omega) (by omega)) w).trans (by rw [show (((c : Nat) : Int) + 32 : Int) = ((c + 32 : Nat) : Int) from by omega]))) ?_
  intro a hA
  refine seq_do (v := .int .i64 (((c + 32 - 1 : Nat) : Int))) hA rfl rfl rfl (does_bin rfl rfl (fun w => (bin_sub (i64In (by omega) (by omega)) w).trans (by rw [show (((c + 32 : Nat) : Int) - 1 : Int) = ((c + 32 - 1 : Nat) : Int) from by omega]))) ?_
  intro a hA
  refine seq_do (v := .int .i64 ((((c + 32 - 1) / 32 : Nat) : Int))) hA rfl rfl rfl (does_bin rfl rfl (bin_quo (by omega))) ?_
  intro a hA
  refine seq_make (m := (c + 32 - 1) / 32) hA hS rfl rfl rfl (does_make Try.underlying22 (by kernel_rfl) rfl rfl (by omega)) (by omega) ?_
  intro g5 w6 hS a hA
  refine seq_do hA rfl rfl rfl (does_assign rfl) ?_
  intro a hA
  refine seq_end ?_
  refine hK4 _ _ ?_
  refine wp_seq_k (fun K7 hK7 => ?_)
  refine wp_seq_k (fun K8 hK8 => ?_)
  refine wp_region_lit ?_
  refine seq_do hA rfl rfl rfl (does_move rfl) ?_
  intro a hA
  refine seq_do (v := .int .i64 ((((c + 32 - 1) / 32 : Nat) : Int))) hA rfl rfl rfl (does_len Try.underlying22 rfl) ?_
  intro a hA
  refine seq_do hA rfl rfl rfl (does_move rfl) ?_
  intro a hA
  refine seq_end ?_
  refine hK8 _ _ ?_
  refine wp_block ?_
  refine wp_loop_n (fun m a w1 => ∃ (i : Nat) (l : List Nat), m = (c + 32 - 1) / 32 - i ∧ (i ≤ (c + 32 - 1) / 32 ∧ l.length = (c + 32 - 1) / 32 ∧ ∀ j, j < i → l.getD j 0 = rwd b y j) ∧ Sl a 42 [(0, .agg #[.bool b, .slice ro ((words y).length) rc]), (1, .int .i64 (((c : Nat) : Int))), (2, .pointer (some ⟨g2, 0, none⟩)), (4, .slice none 0 0), (5, .slice (some ⟨g5, 0, none⟩) ((c + 32 - 1) / 32) ((c + 32 - 1) / 32)), (8, .int .i64 (((c : Nat) : Int))), (9, .int .i64 (((c + 32 : Nat) : Int))), (10, .int .i64 (((c + 32 - 1 : Nat) : Int))), (11, .int .i64 ((((c + 32 - 1) / 32 : Nat) : Int))), (12, .slice (some ⟨g5, 0, none⟩) ((c + 32 - 1) / 32) ((c + 32 - 1) / 32)), (13, .slice (some ⟨g5, 0, none⟩) ((c + 32 - 1) / 32) ((c + 32 - 1) / 32)), (14, .int .i64 ((((c + 32 - 1) / 32 : Nat) : Int))), (15, .int .i64 (((i : Nat) : Int)))] ∧ St w w1 [(g2, [.bool b, .slice ro ((words y).length) rc])] [] [(some ⟨g5, 0, none⟩, (c + 32 - 1) / 32, l)]) _ ⟨0, List.replicate ((c + 32 - 1) / 32) 0, rfl, ⟨Nat.zero_le _, by simp, fun j hj => by omega⟩, hA.keep _ ⟨rfl, rfl, rfl, rfl, rfl, rfl, rfl, rfl, rfl, rfl, rfl, rfl, rfl, trivial⟩, hS⟩ ?_
  clear hS hA
  rintro m a w9 ⟨i, l, rfl, hinv11, hA, hS⟩ K10 hK10
  obtain ⟨hle9, hinv9, hinv8⟩ := hinv11
  have hdig9 := (hS.row 0 rfl).dig
  refine wp_seq_k (fun K12 hK12 => ?_)
  refine wp_region_lit ?_
  rcases Bool.eq_false_or_eq_true (decide (((i : Nat) : Int) < (((c + 32 - 1) / 32 : Nat) : Int))) with hb13 | hb13
  · have hb13' := of_decide_eq_true hb13
    refine seq_do (v := .bool true) hA rfl rfl rfl (does_bin rfl rfl (fun w => (bin_lss w).trans (by rw [hb13]))) ?_
    intro a hA
    refine seq_end ?_
    refine hK12 _ _ ?_
    refine wp_seq_k (fun K14 hK14 => ?_)
    refine wp_cond_true (hA.ev rfl) ?_
    refine wp_skip ?_
    refine hK14 _ _ ?_
    refine wp_seq_k (fun K15 hK15 => ?_)
    refine wp_block ?_
    refine wp_seq_k (fun K16 hK16 => ?_)
    refine wp_region_lit ?_
    refine seq_do hA rfl rfl rfl (does_move rfl) ?_
    intro a hA
    refine seq_do hA rfl rfl rfl (does_assign rfl) ?_
    intro a hA
    refine seq_end ?_
    refine hK16 _ _ ?_
    refine wp_region_lit ?_
    refine seq_do hA rfl rfl rfl (does_move rfl) ?_
    intro a hA
    refine seq_do hA rfl rfl rfl (does_move rfl) ?_
    intro a hA
    refine seq_do (v := .agg #[.bool b, .slice ro ((words y).length) rc]) hA rfl rfl rfl (does_loadS hS BiP_isS_70 rfl 0 rfl (cs := [.bool b, .slice ro ((words y).length) rc]) rfl rfl) ?_
    intro a hA
    refine seq_do hA rfl rfl rfl (does_move rfl) ?_
    intro a hA
    refine seq_call hA rfl rfl rfl (enters_func  rfl rfl (fun w => by kernel_rfl)) (rwordAt_any (hr.below hS.bel) (by omega)) ?_
    rintro _ w18 ⟨rfl, hb17⟩
    have hS0 := hS
    replace hS := hS.call hb17
    refine ⟨_, rfl, ?_⟩
    intro a hA
    have hi22 : i < l.length := by first | omega | (simp only [List.length_set]; omega)
    refine seq_do (v := .pointer (some ⟨g5, 0 + i, none⟩)) hA rfl rfl rfl (does_indexRow (k := i) Try.underlying22 (by kernel_rfl) rfl rfl (by omega) rfl (by omega)) ?_
    intro a hA
    refine seq_row (us' := l.set i (rwd b y i)) hA hS rfl rfl (sets_row (d := rwd b y i) (by kernel_rfl) rfl rfl hS 0 rfl hi22) 0 rfl (rwd_lt _ _ _) rfl ?_
    intro w23 hS
    refine seq_end ?_
    refine hK15 _ _ ?_
    refine wp_region_lit ?_
    refine seq_do (v := .int .i64 (((i + 1 : Nat) : Int))) hA rfl rfl rfl (does_bin rfl rfl (fun w => (bin_add (i64In (by omega) (by omega)) w).trans (by rw [show (((i : Nat) : Int) + 1 : Int) = ((i + 1 : Nat) : Int) from by omega]))) ?_
    intro a hA
    refine seq_do hA rfl rfl rfl (does_move rfl) ?_
    intro a hA
    refine seq_end ?_
    refine hK10 _ _ _ (by omega) ⟨i + 1, l.set i (rwd b y i), rfl, ⟨by omega, by rw [List.length_set]; exact hinv9, fun j hj => by rw [getD_set _ _ _ _ (by omega)]; split; rename_i h; subst h; rfl; exact hinv8 j (by omega)⟩, hA.keep _ ⟨rfl, rfl, rfl, rfl, rfl, rfl, rfl, rfl, rfl, rfl, rfl, rfl, rfl, trivial⟩, hS⟩
  · have hb13' := of_decide_eq_false hb13
    refine seq_do (v := .bool false) hA rfl rfl rfl (does_bin rfl rfl (fun w => (bin_lss w).trans (by rw [hb13]))) ?_
    intro a hA
    refine seq_end ?_
    refine hK12 _ _ ?_
    refine wp_seq_k (fun K24 hK24 => ?_)
    refine wp_cond_false (hA.ev rfl) ?_
    refine wp_exit ?_
    refine hK7 _ _ ?_
    refine wp_seq_k (fun K25 hK25 => ?_)
    refine wp_seq_k (fun K26 hK26 => ?_)
    refine wp_region_lit ?_
    refine seq_do hA rfl rfl rfl (does_move rfl) ?_
    intro a hA
    refine seq_do (v := .int .i64 (((c % 32 : Nat) : Int))) hA rfl rfl rfl (does_bin rfl rfl (bin_rem (by omega))) ?_
    intro a hA
    refine seq_do hA rfl rfl rfl (does_assign rfl) ?_
    intro a hA
    refine seq_end ?_
    refine hK26 _ _ ?_
    refine wp_seq_k (fun K27 hK27 => ?_)
    refine wp_region_lit ?_
    refine seq_do hA rfl rfl rfl (does_move rfl) ?_
    intro a hA
    rcases Bool.eq_false_or_eq_true (decide (0 < ((c % 32 : Nat) : Int))) with hb28 | hb28
    · have hb28' := of_decide_eq_true hb28
      refine seq_do (v := .bool true) hA rfl rfl rfl (does_bin rfl rfl (fun w => (bin_gtr w).trans (by rw [hb28]))) ?_
      intro a hA
      refine seq_end ?_
      refine hK27 _ _ ?_
      refine wp_cond_true (hA.ev rfl) ?_
      refine wp_draw (S := fun w1 => St w w1 [(g2, [.bool b, .slice ro ((words y).length) rc])] [] []) (by kernel_rfl) ?_
      replace hS := hS.drew
      refine any_take hA 0 rfl rfl rfl rfl (by kernel_rfl) (by kernel_rfl) (by kernel_rfl) (fun c a w h => hP c a _ _ w h) (hS.partD (.refl _) 0 rfl (.cons _ .slnil)) (fun w1 hS => does_move rfl) ?_
      intro a hA
      refine any_take hA 1 rfl rfl rfl rfl (by kernel_rfl) (by kernel_rfl) (by kernel_rfl) (fun c a w h => hP c a _ _ w h) (hS.partD (.refl _) 0 rfl (.cons _ .slnil)) (fun w1 hS => does_move rfl) ?_
      intro a hA
      refine any_take (v := .int .i64 ((((c + 32 - 1) / 32 : Nat) : Int))) hA 2 rfl rfl rfl rfl (by kernel_rfl) (by kernel_rfl) (by kernel_rfl) (fun c a w h => hP c a _ _ w h) (hS.partD (.refl _) 0 rfl (.cons _ .slnil)) (fun w1 hS => does_len Try.underlying22 rfl) ?_
      intro a hA
      refine any_take (v := .int .i64 ((((c + 32 - 1) / 32 - 1 : Nat) : Int))) hA 3 rfl rfl rfl rfl (by kernel_rfl) (by kernel_rfl) (by kernel_rfl) (fun c a w h => hP c a _ _ w h) (hS.partD (.refl _) 0 rfl (.cons _ .slnil)) (fun w1 hS => does_bin rfl rfl (fun w => (bin_sub (i64In (by omega) (by omega)) w).trans (by rw [show ((((c + 32 - 1) / 32 : Nat) : Int) - 1 : Int) = (((c + 32 - 1) / 32 - 1 : Nat) : Int) from by omega]))) ?_
      intro a hA
      have hi32 : (c + 32 - 1) / 32 - 1 < l.length := by first | omega | (simp only [List.length_set]; omega)
      refine any_take (v := .pointer (some ⟨g5, 0 + ((c + 32 - 1) / 32 - 1), none⟩)) hA 4 rfl rfl rfl rfl (by kernel_rfl) (by kernel_rfl) (by kernel_rfl) (fun c a w h => hP c a _ _ w h) (hS.partD (.refl _) 0 rfl (.cons _ .slnil)) (fun w1 hS => does_indexRow (k := (c + 32 - 1) / 32 - 1) Try.underlying22 (by kernel_rfl) rfl rfl (by omega) rfl (by omega)) ?_
      intro a hA
      refine any_take hA 6 rfl rfl rfl rfl (by kernel_rfl) (by kernel_rfl) (by kernel_rfl) (fun c a w h => hP c a _ _ w h) (hS.partD (.refl _) 0 rfl (.cons _ .slnil)) (fun w1 hS => does_move rfl) ?_
      intro a hA
      refine any_take (v := .int .u32 (((1 * 2 ^ (c % 32) : Nat) : Int))) hA 7 rfl rfl rfl rfl (by kernel_rfl) (by kernel_rfl) (by kernel_rfl) (fun c a w h => hP c a _ _ w h) (hS.partD (.refl _) 0 rfl (.cons _ .slnil)) (fun w1 hS => does_bin rfl rfl (bin_shl (x := 1) (by decide) (by omega))) ?_
      intro a hA
      refine any_take (v := .int .u32 (((2 ^ (c % 32) - 1 : Nat) : Int))) hA 8 rfl rfl rfl rfl (by kernel_rfl) (by kernel_rfl) (by kernel_rfl) (fun c a w h => hP c a _ _ w h) (hS.partD (.refl _) 0 rfl (.cons _ .slnil)) (fun w1 hS => does_bin rfl rfl (bin_subU (by omega))) ?_
      intro a hA
      refine any_one (by kernel_rfl) (op_do (v := .int .u32 (((l.getD ((c + 32 - 1) / 32 - 1) 0 : Nat) : Int))) hA 5 rfl rfl rfl rfl (does_loadRow (hS.row 0 rfl).rd rfl hi32 BiP_is1_67 rfl) (hS.partD (.refl _) 0 rfl (.cons _ .slnil)) ?_)
      intro a hA
      refine any_take (v := .int .u32 (((l.getD ((c + 32 - 1) / 32 - 1) 0 &&& (2 ^ (c % 32) - 1) : Nat) : Int))) hA 9 rfl rfl rfl rfl (by kernel_rfl) (by kernel_rfl) (by kernel_rfl) (fun c a w h => hP c a _ _ w h) (hS.partD (.refl _) 0 rfl (.cons _ .slnil)) (fun w1 hS => does_bin rfl rfl (bin_and (Dig.getD hdig9 _) (mask_lt (by omega)))) ?_
      intro a hA
      have hi36 : (c + 32 - 1) / 32 - 1 < l.length := by first | omega | (simp only [List.length_set]; omega)
      refine any_take (v := .pointer (some ⟨g5, 0 + ((c + 32 - 1) / 32 - 1), none⟩)) hA 10 rfl rfl rfl rfl (by kernel_rfl) (by kernel_rfl) (by kernel_rfl) (fun c a w h => hP c a _ _ w h) (hS.partD (.refl _) 0 rfl (.cons _ .slnil)) (fun w1 hS => does_indexRow (k := (c + 32 - 1) / 32 - 1) Try.underlying22 (by kernel_rfl) rfl rfl (by omega) rfl (by omega)) ?_
      intro a hA
      refine any_one (by kernel_rfl) (op_row (us' := l.set ((c + 32 - 1) / 32 - 1) (l.getD ((c + 32 - 1) / 32 - 1) 0 &&& (2 ^ (c % 32) - 1))) hA hS 11 rfl rfl rfl (sets_row (d := l.getD ((c + 32 - 1) / 32 - 1) 0 &&& (2 ^ (c % 32) - 1)) (by kernel_rfl) rfl rfl hS 0 rfl hi36) 0 rfl (Nat.lt_of_le_of_lt Nat.and_le_left (Dig.getD (hS.row 0 rfl).dig _)) rfl ?_)
      intro w37 hS
      refine ⟨(hS.partD (.refl _) 0 rfl (.cons _ .slnil)), ?_⟩
      refine any_end (by kernel_rfl) ?_
      refine hK25 _ _ ?_
      refine wp_seq_k (fun K38 hK38 => ?_)
      refine wp_region_lit ?_
      refine seq_do hA rfl rfl rfl (does_move rfl) ?_
      intro a hA
      refine seq_call hA rfl rfl rfl (enters_func  rfl rfl (fun w => by kernel_rfl)) (btrimN_any (hS.row 0 rfl) (by first | exact hinv9 | (rw [List.length_set]; exact hinv9)) (by omega)) ?_
      rintro _ w41 ⟨rfl, ho39, hw40⟩
      have hw9 := below_eq hw40
      have ho9 := ho39.below hw9
      have hS0 := hS
      replace hS := hS.call hw9
      replace hS : St w w41 [(g2, [.bool b, .slice ro ((words y).length) rc])] [] [(some ⟨g5, 0, none⟩, (c + 32 - 1) / 32, words (val (l.set ((c + 32 - 1) / 32 - 1) (l.getD ((c + 32 - 1) / 32 - 1) 0 &&& (2 ^ (c % 32) - 1)))))] := hS.retake 0 rfl ho9
      refine ⟨_, rfl, ?_⟩
      intro a hA
      refine seq_do hA rfl rfl rfl (does_assign rfl) ?_
      intro a hA
      refine seq_end ?_
      refine hK38 _ _ ?_
      refine wp_ret ?_
      refine hret _ _ ?_
      refine ends (v := .slice (some ⟨g5, 0, none⟩) ((words (val (l.set ((c + 32 - 1) / 32 - 1) (l.getD ((c + 32 - 1) / 32 - 1) 0 &&& (2 ^ (c % 32) - 1))))).length) ((c + 32 - 1) / 32)) hA rfl (.cons (res_tmp rfl) .nil) rfl ?_
      have hi9 : i = (c + 32 - 1) / 32 := by omega
      subst hi9
      have el : l = rowL b y ((c + 32 - 1) / 32) := list_of_getD (by rw [rowL_len]; exact hinv9) (fun j hj => by rw [rowL_get (by omega)]; exact hinv8 j (by omega))
      subst el
      obtain ⟨n9, hn9⟩ : ∃ n9, (c + 32 - 1) / 32 = n9 + 1 := ⟨(c + 32 - 1) / 32 - 1, by omega⟩
      have ev := low_mask (b := b) (y := y) hn9 (by omega)
      have e9 : (c + 32 - 1) / 32 - 1 = n9 := by omega
      rw [← hn9, ← e9] at ev
      rw [← ev]
      exact ⟨_, _, rfl, hS.row 0 rfl, hS.bel⟩
    · have hb28' := of_decide_eq_false hb28
      refine seq_do (v := .bool false) hA rfl rfl rfl (does_bin rfl rfl (fun w => (bin_gtr w).trans (by rw [hb28]))) ?_
      intro a hA
      refine seq_end ?_
      refine hK27 _ _ ?_
      refine wp_cond_false (hA.ev rfl) ?_
      refine wp_skip ?_
      refine hK25 _ _ ?_
      refine wp_seq_k (fun K42 hK42 => ?_)
      refine wp_region_lit ?_
      refine seq_do hA rfl rfl rfl (does_move rfl) ?_
      intro a hA
      refine seq_call hA rfl rfl rfl (enters_func  rfl rfl (fun w => by kernel_rfl)) (btrimN_any (hS.row 0 rfl) (by first | exact hinv9 | (rw [List.length_set]; exact hinv9)) (by omega)) ?_
      rintro _ w45 ⟨rfl, ho43, hw44⟩
      have hw9 := below_eq hw44
      have ho9 := ho43.below hw9
      have hS0 := hS
      replace hS := hS.call hw9
      replace hS : St w w45 [(g2, [.bool b, .slice ro ((words y).length) rc])] [] [(some ⟨g5, 0, none⟩, (c + 32 - 1) / 32, words (val (l)))] := hS.retake 0 rfl ho9
      refine ⟨_, rfl, ?_⟩
      intro a hA
      refine seq_do hA rfl rfl rfl (does_assign rfl) ?_
      intro a hA
      refine seq_end ?_
      refine hK42 _ _ ?_
      refine wp_ret ?_
      refine hret _ _ ?_
      refine ends (v := .slice (some ⟨g5, 0, none⟩) ((words (val (l))).length) ((c + 32 - 1) / 32)) hA rfl (.cons (res_tmp rfl) .nil) rfl ?_
      have hi9 : i = (c + 32 - 1) / 32 := by omega
      subst hi9
      have el : l = rowL b y ((c + 32 - 1) / 32) := list_of_getD (by rw [rowL_len]; exact hinv9) (fun j hj => by rw [rowL_get (by omega)]; exact hinv8 j (by omega))
      subst el
      rw [← low_all (b := b) (y := y) (c := c) (by omega)]
      exact ⟨_, _, rfl, hS.row 0 rfl, hS.bel⟩
theorem fieldPE_any {w : World} {q : Q6} {a1 a2 a3 a4 : Option Addr} {ac1 ac2 ac3 ac4 : Nat} (ha : Nm w q a1 ac1 a2 ac2 a3 ac3 a4 ac4) (hl : LenQ q) {s e : Int} (hw : (want1 q != 0) = true) : Calls Try.prog 23 #[numV q a1 ac1 a2 ac2 a3 ac3 a4 ac4, .int .i64 s, .int .i64 e] w (AnsN w (fieldQ q s e)) := by
  have hS : St w w [] [(a4, q.q2), (a3, q.t2), (a2, q.q1), (a1, q.t1)] [] := ((((St.start w).addR ha.s1.rd).addR ha.s2.rd).addR ha.s3.rd).addR ha.s4.rd
  refine walk_of (l := [(0, .agg #[.bool q.b1, .slice a1 q.t1.length ac1, .slice a2 q.q1.length ac2, .bool q.b2, .slice a3 q.t2.length ac3, .slice a4 q.q2.length ac4]), (1, .int .i64 s), (2, .int .i64 e)]) Try.func23 rfl Try.ntmps23 rfl rfl ?_
  intro Q hret hnorm hP a hA
  refine wp_seq_k (fun K1 hK1 => ?_)
  refine wp_region_lit ?_
  refine seq_new (vs := [.bool q.b1, .slice a1 q.t1.length ac1, .slice a2 q.q1.length ac2, .bool q.b2, .slice a3 q.t2.length ac3, .slice a4 q.q2.length ac4]) (t := 26) hA hS rfl rfl rfl (fun g => .pointer (some ⟨g, 0, none⟩)) (does_box rfl rfl) rfl ?_
  intro g2 w3 hS a hA
  refine seq_new (vs := [.bool false, .slice none 0 0, .slice none 0 0, .bool false, .slice none 0 0, .slice none 0 0]) (t := 26) hA hS rfl rfl rfl (fun g => .pointer (some ⟨g, 0, none⟩)) (does_alloc (z := .agg #[.bool false, .slice none 0 0, .slice none 0 0, .bool false, .slice none 0 0, .slice none 0 0]) (by kernel_rfl) rfl) rfl ?_
  intro g4 w5 hS a hA
  refine seq_do hA rfl rfl rfl (does_assign rfl) ?_
  intro a hA
  refine seq_end ?_
  refine hK1 _ _ ?_
  refine wp_seq_k (fun K6 hK6 => ?_)
  refine wp_seq_k (fun K7 hK7 => ?_)
  refine wp_region_lit ?_
  refine seq_do (v := .agg #[.bool q.b1, .slice a1 q.t1.length ac1, .slice a2 q.q1.length ac2, .bool q.b2, .slice a3 q.t2.length ac3, .slice a4 q.q2.length ac4]) hA rfl rfl rfl (does_loadS hS BiP_isS_26 rfl 1 rfl (cs := [.bool q.b1, .slice a1 q.t1.length ac1, .slice a2 q.q1.length ac2, .bool q.b2, .slice a3 q.t2.length ac3, .slice a4 q.q2.length ac4]) rfl rfl) ?_
  intro a hA
  refine seq_new (vs := [.bool q.b1, .slice a1 q.t1.length ac1, .slice a2 q.q1.length ac2, .bool q.b2, .slice a3 q.t2.length ac3, .slice a4 q.q2.length ac4]) (t := 26) hA hS rfl rfl rfl (fun g => .slice (some ⟨g, 0, none⟩) 1 1) (does_buildSlice rfl (by kernel_rfl)) rfl ?_
  intro g8 w9 hS a hA
  refine seq_call hA rfl rfl rfl (enters_func  rfl rfl (fun w => by kernel_rfl)) (want1_any (show Nm _ q a1 ac1 a2 ac2 a3 ac3 a4 ac4 from ⟨⟨(hS.rd 3 rfl), ha.s1.nil, ha.s1.cap⟩, ⟨(hS.rd 2 rfl), ha.s2.nil, ha.s2.cap⟩, ⟨(hS.rd 1 rfl), ha.s3.nil, ha.s3.cap⟩, ⟨(hS.rd 0 rfl), ha.s4.nil, ha.s4.cap⟩⟩) hl (hS.blk 0 rfl) rfl) ?_
  rintro _ w11 ⟨rfl, hb10⟩
  replace hS := hS.call hb10
  refine ⟨_, rfl, ?_⟩
  intro a hA
  refine seq_do hA rfl rfl rfl (does_assign rfl) ?_
  intro a hA
  refine seq_end ?_
  refine hK7 _ _ ?_
  refine wp_seq_k (fun K12 hK12 => ?_)
  refine wp_region_lit ?_
  refine seq_do hA rfl rfl rfl (does_move rfl) ?_
  intro a hA
  refine seq_do (v := .bool true) hA rfl rfl rfl (does_bin rfl rfl (fun w => (bin_neq w).trans (by rw [show ((want1 q != 0)) = true from hw]))) ?_
  intro a hA
  refine seq_end ?_
  refine hK12 _ _ ?_
  refine wp_cond_true (hA.ev rfl) ?_
  refine wp_seq_k (fun K13 hK13 => ?_)
  refine wp_region_lit ?_
  refine seq_do (v := .agg #[.bool false, .slice none 0 0, .slice none 0 0, .bool false, .slice none 0 0, .slice none 0 0]) hA rfl rfl rfl (does_build rfl (fun w => by kernel_rfl)) ?_
  intro a hA
  refine seq_do hA rfl rfl rfl (does_move rfl) ?_
  intro a hA
  refine seq_store (us := [.bool false, .slice none 0 0, .slice none 0 0, .bool false, .slice none 0 0, .slice none 0 0]) hA hS rfl rfl (sets_store (cs := [.bool false, .slice none 0 0, .slice none 0 0, .bool false, .slice none 0 0, .slice none 0 0]) rfl rfl rfl (by kernel_rfl) hS 1 rfl rfl rfl) 1 rfl rfl rfl rfl ?_
  intro w14 hS
  refine seq_do hA rfl rfl rfl (does_assign rfl) ?_
  intro a hA
  refine seq_end ?_
  refine hK13 _ _ ?_
  refine wp_ret ?_
  refine hret _ _ ?_
  refine ends (v := .tuple #[.agg #[.bool false, .slice none 0 0, .slice none 0 0, .bool false, .slice none 0 0, .slice none 0 0], .int .i64 (want1 q)]) hA rfl (.cons (res_cell hS BiP_isS_26 rfl 1 rfl (cs := [.bool false, .slice none 0 0, .slice none 0 0, .bool false, .slice none 0 0, .slice none 0 0]) rfl rfl) (.cons (res_tmp rfl) .nil)) rfl ?_
  rw [fieldQ_err hw]
  exact ⟨none, 0, none, 0, none, 0, none, 0, rfl, ⟨(Sc.none _), (Sc.none _), (Sc.none _), (Sc.none _)⟩, hS.bel⟩
theorem fieldPA_any {w : World} {b : Bool} {x : Nat} {a1 a2 a3 a4 : Option Addr} {ac1 ac2 ac3 ac4 : Nat} (ha : Nm w (Q6.whole b x) a1 ac1 a2 ac2 a3 ac3 a4 ac4) (hl : LenQ (Q6.whole b x)) {s e : Int} (hw : want1 (Q6.whole b x) = 0) (hx : (words x).length ≤ 512) (hb : b.toNat ≤ x) (hs : s < 0 ∨ e < s ∨ 16384 < e) : Calls Try.prog 23 #[numV (Q6.whole b x) a1 ac1 a2 ac2 a3 ac3 a4 ac4, .int .i64 s, .int .i64 e] w (AnsN w (fieldQ (Q6.whole b x) s e)) := by
  have hS : St w w [] [(a4, [1]), (a3, []), (a2, [1]), (a1, words x)] [] := ((((St.start w).addR ha.s1.rd).addR ha.s2.rd).addR ha.s3.rd).addR ha.s4.rd
  refine walk_of (l := [(0, .agg #[.bool b, .slice a1 ((words x).length) ac1, .slice a2 1 ac2, .bool false, .slice a3 0 ac3, .slice a4 1 ac4]), (1, .int .i64 s), (2, .int .i64 e)]) Try.func23 rfl Try.ntmps23 rfl rfl ?_
  intro Q hret hnorm hP a hA
  refine wp_seq_k (fun K1 hK1 => ?_)
  refine wp_region_lit ?_
  refine seq_new (vs := [.bool b, .slice a1 ((words x).length) ac1, .slice a2 1 ac2, .bool false, .slice a3 0 ac3, .slice a4 1 ac4]) (t := 26) hA hS rfl rfl rfl (fun g => .pointer (some ⟨g, 0, none⟩)) (does_box rfl rfl) rfl ?_
  intro g2 w3 hS a hA
  refine seq_new (vs := [.bool false, .slice none 0 0, .slice none 0 0, .bool false, .slice none 0 0, .slice none 0 0]) (t := 26) hA hS rfl rfl rfl (fun g => .pointer (some ⟨g, 0, none⟩)) (does_alloc (z := .agg #[.bool false, .slice none 0 0, .slice none 0 0, .bool false, .slice none 0 0, .slice none 0 0]) (by kernel_rfl) rfl) rfl ?_
  intro g4 w5 hS a hA
  refine seq_do hA rfl rfl rfl (does_assign rfl) ?_
  intro a hA
  refine seq_end ?_
  refine hK1 _ _ ?_
  refine wp_seq_k (fun K6 hK6 => ?_)
  refine wp_seq_k (fun K7 hK7 => ?_)
  refine wp_region_lit ?_
  refine seq_do (v := .agg #[.bool b, .slice a1 ((words x).length) ac1, .slice a2 1 ac2, .bool false, .slice a3 0 ac3, .slice a4 1 ac4]) hA rfl rfl rfl (does_loadS hS BiP_isS_26 rfl 1 rfl (cs := [.bool b, .slice a1 ((words x).length) ac1, .slice a2 1 ac2, .bool false, .slice a3 0 ac3, .slice a4 1 ac4]) rfl rfl) ?_
  intro a hA
  refine seq_new (vs := [.bool b, .slice a1 ((words x).length) ac1, .slice a2 1 ac2, .bool false, .slice a3 0 ac3, .slice a4 1 ac4]) (t := 26) hA hS rfl rfl rfl (fun g => .slice (some ⟨g, 0, none⟩) 1 1) (does_buildSlice rfl (by kernel_rfl)) rfl ?_
  intro g8 w9 hS a hA
  refine seq_call hA rfl rfl rfl (enters_func  rfl rfl (fun w => by kernel_rfl)) (want1_any (show Nm _ (Q6.whole b x) a1 ac1 a2 ac2 a3 ac3 a4 ac4 from ⟨⟨(hS.rd 3 rfl), ha.s1.nil, ha.s1.cap⟩, ⟨(hS.rd 2 rfl), ha.s2.nil, ha.s2.cap⟩, ⟨(hS.rd 1 rfl), ha.s3.nil, ha.s3.cap⟩, ⟨(hS.rd 0 rfl), ha.s4.nil, ha.s4.cap⟩⟩) hl (hS.blk 0 rfl) hw) ?_
  rintro _ w11 ⟨rfl, hb10⟩
  replace hS := hS.call hb10
  refine ⟨_, rfl, ?_⟩
  intro a hA
  refine seq_do hA rfl rfl rfl (does_assign rfl) ?_
  intro a hA
  refine seq_end ?_
  refine hK7 _ _ ?_
  refine wp_seq_k (fun K12 hK12 => ?_)
  refine wp_region_lit ?_
  refine seq_do hA rfl rfl rfl (does_move rfl) ?_
  intro a hA
  refine seq_do (v := .bool false) hA rfl rfl rfl (does_bin rfl rfl (fun w => by kernel_rfl)) ?_
  intro a hA
  refine seq_end ?_
  refine hK12 _ _ ?_
  refine wp_cond_false (hA.ev rfl) ?_
  refine wp_skip ?_
  refine hK6 _ _ ?_
  refine wp_seq_k (fun K13 hK13 => ?_)
  refine wp_seq_k (fun K14 hK14 => ?_)
  refine wp_region_lit ?_
  refine seq_do hA rfl rfl rfl (does_move rfl) ?_
  intro a hA
  rcases Bool.eq_false_or_eq_true (decide (s < 0)) with hb15 | hb15
  · have hb15' := of_decide_eq_true hb15
    refine seq_do (v := .bool true) hA rfl rfl rfl (does_bin rfl rfl (fun w => (bin_lss w).trans (by rw [hb15]))) ?_
    intro a hA
    refine seq_do hA rfl rfl rfl (does_move rfl) ?_
    intro a hA
    refine seq_skip hA rfl rfl rfl ?_
    intro a hA
    refine seq_skip hA rfl rfl rfl ?_
    intro a hA
    refine seq_skip hA rfl rfl rfl ?_
    intro a hA
    refine seq_do (v := .bool true) hA rfl rfl rfl (does_pick rfl rfl rfl rfl) ?_
    intro a hA
    refine seq_do hA rfl rfl rfl (does_move rfl) ?_
    intro a hA
    refine seq_skip hA rfl rfl rfl ?_
    intro a hA
    refine seq_skip hA rfl rfl rfl ?_
    intro a hA
    refine seq_do (v := .bool true) hA rfl rfl rfl (does_pick rfl rfl rfl rfl) ?_
    intro a hA
    refine seq_end ?_
    refine hK14 _ _ ?_
    refine wp_cond_true (hA.ev rfl) ?_
    refine wp_seq_k (fun K16 hK16 => ?_)
    refine wp_region_lit ?_
    refine seq_do (v := .agg #[.bool false, .slice none 0 0, .slice none 0 0, .bool false, .slice none 0 0, .slice none 0 0]) hA rfl rfl rfl (does_build rfl (fun w => by kernel_rfl)) ?_
    intro a hA
    refine seq_store (us := [.bool false, .slice none 0 0, .slice none 0 0, .bool false, .slice none 0 0, .slice none 0 0]) hA hS rfl rfl (sets_store (cs := [.bool false, .slice none 0 0, .slice none 0 0, .bool false, .slice none 0 0, .slice none 0 0]) rfl rfl rfl (by kernel_rfl) hS 1 rfl rfl rfl) 1 rfl rfl rfl rfl ?_
    intro w17 hS
    refine seq_do hA rfl rfl rfl (does_assign rfl) ?_
    intro a hA
    refine seq_end ?_
    refine hK16 _ _ ?_
    refine wp_ret ?_
    refine hret _ _ ?_
    refine ends (v := .tuple #[.agg #[.bool false, .slice none 0 0, .slice none 0 0, .bool false, .slice none 0 0, .slice none 0 0], .int .i64 1]) hA rfl (.cons (res_cell hS BiP_isS_26 rfl 1 rfl (cs := [.bool false, .slice none 0 0, .slice none 0 0, .bool false, .slice none 0 0, .slice none 0 0]) rfl rfl) (.cons (res_tmp rfl) .nil)) rfl ?_
    rw [fieldQ_arg hw (by omega)]
    exact ⟨none, 0, none, 0, none, 0, none, 0, rfl, ⟨(Sc.none _), (Sc.none _), (Sc.none _), (Sc.none _)⟩, hS.bel⟩
  · have hb15' := of_decide_eq_false hb15
    refine seq_do (v := .bool false) hA rfl rfl rfl (does_bin rfl rfl (fun w => (bin_lss w).trans (by rw [hb15]))) ?_
    intro a hA
    refine seq_do hA rfl rfl rfl (does_move rfl) ?_
    intro a hA
    refine seq_do hA rfl rfl rfl (does_move rfl) ?_
    intro a hA
    refine seq_do hA rfl rfl rfl (does_move rfl) ?_
    intro a hA
    rcases Bool.eq_false_or_eq_true (decide (e < s)) with hb18 | hb18
    · have hb18' := of_decide_eq_true hb18
      refine seq_do (v := .bool true) hA rfl rfl rfl (does_bin rfl rfl (fun w => (bin_lss w).trans (by rw [hb18]))) ?_
      intro a hA
      refine seq_do (v := .bool true) hA rfl rfl rfl (does_pick rfl rfl rfl rfl) ?_
      intro a hA
      refine seq_do hA rfl rfl rfl (does_move rfl) ?_
      intro a hA
      refine seq_skip hA rfl rfl rfl ?_
      intro a hA
      refine seq_skip hA rfl rfl rfl ?_
      intro a hA
      refine seq_do (v := .bool true) hA rfl rfl rfl (does_pick rfl rfl rfl rfl) ?_
      intro a hA
      refine seq_end ?_
      refine hK14 _ _ ?_
      refine wp_cond_true (hA.ev rfl) ?_
      refine wp_seq_k (fun K19 hK19 => ?_)
      refine wp_region_lit ?_
      refine seq_do (v := .agg #[.bool false, .slice none 0 0, .slice none 0 0, .bool false, .slice none 0 0, .slice none 0 0]) hA rfl rfl rfl (does_build rfl (fun w => by kernel_rfl)) ?_
      intro a hA
      refine seq_store (us := [.bool false, .slice none 0 0, .slice none 0 0, .bool false, .slice none 0 0, .slice none 0 0]) hA hS rfl rfl (sets_store (cs := [.bool false, .slice none 0 0, .slice none 0 0, .bool false, .slice none 0 0, .slice none 0 0]) rfl rfl rfl (by kernel_rfl) hS 1 rfl rfl rfl) 1 rfl rfl rfl rfl ?_
      intro w20 hS
      refine seq_do hA rfl rfl rfl (does_assign rfl) ?_
      intro a hA
      refine seq_end ?_
      refine hK19 _ _ ?_
      refine wp_ret ?_
      refine hret _ _ ?_
      refine ends (v := .tuple #[.agg #[.bool false, .slice none 0 0, .slice none 0 0, .bool false, .slice none 0 0, .slice none 0 0], .int .i64 1]) hA rfl (.cons (res_cell hS BiP_isS_26 rfl 1 rfl (cs := [.bool false, .slice none 0 0, .slice none 0 0, .bool false, .slice none 0 0, .slice none 0 0]) rfl rfl) (.cons (res_tmp rfl) .nil)) rfl ?_
      rw [fieldQ_arg hw (by omega)]
      exact ⟨none, 0, none, 0, none, 0, none, 0, rfl, ⟨(Sc.none _), (Sc.none _), (Sc.none _), (Sc.none _)⟩, hS.bel⟩
    · have hb18' := of_decide_eq_false hb18
      refine seq_do (v := .bool false) hA rfl rfl rfl (does_bin rfl rfl (fun w => (bin_lss w).trans (by rw [hb18]))) ?_
      intro a hA
      refine seq_do (v := .bool false) hA rfl rfl rfl (does_pick rfl rfl rfl rfl) ?_
      intro a hA
      refine seq_do hA rfl rfl rfl (does_move rfl) ?_
      intro a hA
      refine seq_do hA rfl rfl rfl (does_move rfl) ?_
      intro a hA
      refine seq_do (v := .bool true) hA rfl rfl rfl (does_bin rfl rfl (fun w => (bin_gtr w).trans (by rw [show (decide (16384 < e)) = true from (decide_eq_true (by omega))]))) ?_
      intro a hA
      refine seq_do (v := .bool true) hA rfl rfl rfl (does_pick rfl rfl rfl rfl) ?_
      intro a hA
      refine seq_end ?_
      refine hK14 _ _ ?_
      refine wp_cond_true (hA.ev rfl) ?_
      refine wp_seq_k (fun K21 hK21 => ?_)
      refine wp_region_lit ?_
      refine seq_do (v := .agg #[.bool false, .slice none 0 0, .slice none 0 0, .bool false, .slice none 0 0, .slice none 0 0]) hA rfl rfl rfl (does_build rfl (fun w => by kernel_rfl)) ?_
      intro a hA
      refine seq_store (us := [.bool false, .slice none 0 0, .slice none 0 0, .bool false, .slice none 0 0, .slice none 0 0]) hA hS rfl rfl (sets_store (cs := [.bool false, .slice none 0 0, .slice none 0 0, .bool false, .slice none 0 0, .slice none 0 0]) rfl rfl rfl (by kernel_rfl) hS 1 rfl rfl rfl) 1 rfl rfl rfl rfl ?_
      intro w22 hS
      refine seq_do hA rfl rfl rfl (does_assign rfl) ?_
      intro a hA
      refine seq_end ?_
      refine hK21 _ _ ?_
      refine wp_ret ?_
      refine hret _ _ ?_
      refine ends (v := .tuple #[.agg #[.bool false, .slice none 0 0, .slice none 0 0, .bool false, .slice none 0 0, .slice none 0 0], .int .i64 1]) hA rfl (.cons (res_cell hS BiP_isS_26 rfl 1 rfl (cs := [.bool false, .slice none 0 0, .slice none 0 0, .bool false, .slice none 0 0, .slice none 0 0]) rfl rfl) (.cons (res_tmp rfl) .nil)) rfl ?_
      rw [fieldQ_arg hw (by omega)]
      exact ⟨none, 0, none, 0, none, 0, none, 0, rfl, ⟨(Sc.none _), (Sc.none _), (Sc.none _), (Sc.none _)⟩, hS.bel⟩
theorem fieldPW_any {w : World} {b : Bool} {x : Nat} {a1 a2 a3 a4 : Option Addr} {ac1 ac2 ac3 ac4 : Nat} (ha : Nm w (Q6.whole b x) a1 ac1 a2 ac2 a3 ac3 a4 ac4) (hl : LenQ (Q6.whole b x)) {S E : Nat} (h1 : S ≤ E) (h2 : E ≤ 16384) (hw : want1 (Q6.whole b x) = 0) (hx : (words x).length ≤ 512) (hb : b.toNat ≤ x) : Calls Try.prog 23 #[numV (Q6.whole b x) a1 ac1 a2 ac2 a3 ac3 a4 ac4, .int .i64 ((S : Nat) : Int), .int .i64 ((E : Nat) : Int)] w (AnsN w (fieldQ (Q6.whole b x) (S : Int) (E : Int))) := by
  have hS : St w w [] [(a4, [1]), (a3, []), (a2, [1]), (a1, words x)] [] := ((((St.start w).addR ha.s1.rd).addR ha.s2.rd).addR ha.s3.rd).addR ha.s4.rd
  refine walk_of (l := [(0, .agg #[.bool b, .slice a1 ((words x).length) ac1, .slice a2 1 ac2, .bool false, .slice a3 0 ac3, .slice a4 1 ac4]), (1, .int .i64 (((S : Nat) : Int))), (2, .int .i64 (((E : Nat) : Int)))]) Try.func23 rfl Try.ntmps23 rfl rfl ?_
  intro Q hret hnorm hP a hA
  refine wp_seq_k (fun K1 hK1 => ?_)
  refine wp_region_lit ?_
  refine seq_new (vs := [.bool b, .slice a1 ((words x).length) ac1, .slice a2 1 ac2, .bool false, .slice a3 0 ac3, .slice a4 1 ac4]) (t := 26) hA hS rfl rfl rfl (fun g => .pointer (some ⟨g, 0, none⟩)) (does_box rfl rfl) rfl ?_
  intro g2 w3 hS a hA
  refine seq_new (vs := [.bool false, .slice none 0 0, .slice none 0 0, .bool false, .slice none 0 0, .slice none 0 0]) (t := 26) hA hS rfl rfl rfl (fun g => .pointer (some ⟨g, 0, none⟩)) (does_alloc (z := .agg #[.bool false, .slice none 0 0, .slice none 0 0, .bool false, .slice none 0 0, .slice none 0 0]) (by kernel_rfl) rfl) rfl ?_
  intro g4 w5 hS a hA
  refine seq_do hA rfl rfl rfl (does_assign rfl) ?_
  intro a hA
  refine seq_end ?_
  refine hK1 _ _ ?_
  refine wp_seq_k (fun K6 hK6 => ?_)
  refine wp_seq_k (fun K7 hK7 => ?_)
  refine wp_region_lit ?_
  refine seq_do (v := .agg #[.bool b, .slice a1 ((words x).length) ac1, .slice a2 1 ac2, .bool false, .slice a3 0 ac3, .slice a4 1 ac4]) hA rfl rfl rfl (does_loadS hS BiP_isS_26 rfl 1 rfl (cs := [.bool b, .slice a1 ((words x).length) ac1, .slice a2 1 ac2, .bool false, .slice a3 0 ac3, .slice a4 1 ac4]) rfl rfl) ?_
  intro a hA
  refine seq_new (vs := [.bool b, .slice a1 ((words x).length) ac1, .slice a2 1 ac2, .bool false, .slice a3 0 ac3, .slice a4 1 ac4]) (t := 26) hA hS rfl rfl rfl (fun g => .slice (some ⟨g, 0, none⟩) 1 1) (does_buildSlice rfl (by kernel_rfl)) rfl ?_
  intro g8 w9 hS a hA
  refine seq_call hA rfl rfl rfl (enters_func  rfl rfl (fun w => by kernel_rfl)) (want1_any (show Nm _ (Q6.whole b x) a1 ac1 a2 ac2 a3 ac3 a4 ac4 from ⟨⟨(hS.rd 3 rfl), ha.s1.nil, ha.s1.cap⟩, ⟨(hS.rd 2 rfl), ha.s2.nil, ha.s2.cap⟩, ⟨(hS.rd 1 rfl), ha.s3.nil, ha.s3.cap⟩, ⟨(hS.rd 0 rfl), ha.s4.nil, ha.s4.cap⟩⟩) hl (hS.blk 0 rfl) hw) ?_
  rintro _ w11 ⟨rfl, hb10⟩
  replace hS := hS.call hb10
  refine ⟨_, rfl, ?_⟩
  intro a hA
  refine seq_do hA rfl rfl rfl (does_assign rfl) ?_
  intro a hA
  refine seq_end ?_
  refine hK7 _ _ ?_
  refine wp_seq_k (fun K12 hK12 => ?_)
  refine wp_region_lit ?_
  refine seq_do hA rfl rfl rfl (does_move rfl) ?_
  intro a hA
  refine seq_do (v := .bool false) hA rfl rfl rfl (does_bin rfl rfl (fun w => by kernel_rfl)) ?_
  intro a hA
  refine seq_end ?_
  refine hK12 _ _ ?_
  refine wp_cond_false (hA.ev rfl) ?_
  refine wp_skip ?_
  refine hK6 _ _ ?_
  refine wp_seq_k (fun K13 hK13 => ?_)
  refine wp_seq_k (fun K14 hK14 => ?_)
  refine wp_region_lit ?_
  refine seq_do hA rfl rfl rfl (does_move rfl) ?_
  intro a hA
  refine seq_do (v := .bool false) hA rfl rfl rfl (does_bin rfl rfl (fun w => (bin_lss w).trans (by rw [show (decide (((S : Nat) : Int) < 0)) = false from (decide_eq_false (by omega))]))) ?_
  intro a hA
  refine seq_do hA rfl rfl rfl (does_move rfl) ?_
  intro a hA
  refine seq_do hA rfl rfl rfl (does_move rfl) ?_
  intro a hA
  refine seq_do hA rfl rfl rfl (does_move rfl) ?_
  intro a hA
  refine seq_do (v := .bool false) hA rfl rfl rfl (does_bin rfl rfl (fun w => (bin_lss w).trans (by rw [show (decide (((E : Nat) : Int) < ((S : Nat) : Int))) = false from (decide_eq_false (by omega))]))) ?_
  intro a hA
  refine seq_do (v := .bool false) hA rfl rfl rfl (does_pick rfl rfl rfl rfl) ?_
  intro a hA
  refine seq_do hA rfl rfl rfl (does_move rfl) ?_
  intro a hA
  refine seq_do hA rfl rfl rfl (does_move rfl) ?_
  intro a hA
  refine seq_do (v := .bool false) hA rfl rfl rfl (does_bin rfl rfl (fun w => (bin_gtr w).trans (by rw [show (decide (16384 < ((E : Nat) : Int))) = false from (decide_eq_false (by omega))]))) ?_
  intro a hA
  refine seq_do (v := .bool false) hA rfl rfl rfl (does_pick rfl rfl rfl rfl) ?_
  intro a hA
  refine seq_end ?_
  refine hK14 _ _ ?_
  refine wp_cond_false (hA.ev rfl) ?_
  refine wp_skip ?_
  refine hK13 _ _ ?_
  refine wp_seq_k (fun K15 hK15 => ?_)
  refine wp_region_lit ?_
  refine seq_do (v := .agg #[.bool b, .slice a1 ((words x).length) ac1, .slice a2 1 ac2, .bool false, .slice a3 0 ac3, .slice a4 1 ac4]) hA rfl rfl rfl (does_loadS hS BiP_isS_26 rfl 2 rfl (cs := [.bool b, .slice a1 ((words x).length) ac1, .slice a2 1 ac2, .bool false, .slice a3 0 ac3, .slice a4 1 ac4]) rfl rfl) ?_
  intro a hA
  refine seq_call hA rfl rfl rfl (enters_func  rfl rfl (fun w => by kernel_rfl)) (rowOf_any (show Nm _ (Q6.whole b x) a1 ac1 a2 ac2 a3 ac3 a4 ac4 from ⟨⟨(hS.rd 3 rfl), ha.s1.nil, ha.s1.cap⟩, ⟨(hS.rd 2 rfl), ha.s2.nil, ha.s2.cap⟩, ⟨(hS.rd 1 rfl), ha.s3.nil, ha.s3.cap⟩, ⟨(hS.rd 0 rfl), ha.s4.nil, ha.s4.cap⟩⟩) hx hb) ?_
  rintro _ w20 ⟨ro16, rc17, rfl, hs18, hb19⟩
  replace hS := hS.call hb19
  replace hS := hS.addR hs18.rd
  refine ⟨_, rfl, ?_⟩
  intro a hA
  refine seq_do hA rfl rfl rfl (does_move rfl) ?_
  intro a hA
  refine seq_call hA rfl rfl rfl (enters_func  rfl rfl (fun w => by kernel_rfl)) ((show Calls Try.prog 52 #[.agg #[.bool b, .slice ro16 (words (x - b.toNat)).length rc17], .int .i64 ((S : Nat) : Int)] _ _ from down_any (n := ((S : Nat) : Int)) ⟨(hS.rd 0 rfl), hs18.nil, hs18.cap⟩ (sub_len hx) (by omega) (by omega))) ?_
  rintro _ w25 ⟨ro21, rc22, rfl, hs23, hb24⟩
  replace hS := hS.call hb24
  replace hS := hS.addR hs23.rd
  refine ⟨_, rfl, ?_⟩
  intro a hA
  refine seq_do hA rfl rfl rfl (does_move rfl) ?_
  intro a hA
  refine seq_do hA rfl rfl rfl (does_move rfl) ?_
  intro a hA
  refine seq_do (v := .int .i64 (((E - S : Nat) : Int))) hA rfl rfl rfl (does_bin rfl rfl (fun w => (bin_sub (i64In (by omega) (by omega)) w).trans (by rw [show (((E : Nat) : Int) - ((S : Nat) : Int) : Int) = ((E - S : Nat) : Int) from by omega]))) ?_
  intro a hA
  refine seq_call hA rfl rfl rfl (enters_func  rfl rfl (fun w => by kernel_rfl)) (lowest_row_any (c := E - S) (hS.rd 0 rfl) (Nat.le_trans (div_len (sub_len hx)) (by decide)) (by omega)) ?_
  rintro _ w30 ⟨ro26, rc27, rfl, ho28, hb29⟩
  replace hS := hS.call hb29
  replace hS := hS.addR ho28.rd
  refine ⟨_, rfl, ?_⟩
  intro a hA
  refine seq_call hA rfl rfl rfl (enters_func  rfl rfl (fun w => by kernel_rfl)) (wholeV_any false ⟨(hS.rd 0 rfl), ho28.nocap, ho28.caps⟩) ?_
  rintro _ w34 ⟨p31_1, p31_c1, p31_2, p31_c2, p31_3, p31_c3, p31_4, p31_c4, rfl, hn32, hb33⟩
  replace hS := hS.call hb33
  replace hS := hS.addR hn32.s1.rd
  replace hS := hS.addR hn32.s2.rd
  replace hS := hS.addR hn32.s3.rd
  replace hS := hS.addR hn32.s4.rd
  refine ⟨_, rfl, ?_⟩
  intro a hA
  refine seq_store (us := [.bool false, .slice p31_1 ((words (fld b ((x - b.toNat) / 2 ^ S) 0 (E - S))).length) p31_c1, .slice p31_2 1 p31_c2, .bool false, .slice p31_3 0 p31_c3, .slice p31_4 1 p31_c4]) hA hS rfl rfl (sets_store (cs := [.bool false, .slice p31_1 ((words (fld b ((x - b.toNat) / 2 ^ S) 0 (E - S))).length) p31_c1, .slice p31_2 1 p31_c2, .bool false, .slice p31_3 0 p31_c3, .slice p31_4 1 p31_c4]) rfl rfl rfl (by kernel_rfl) hS 1 rfl rfl rfl) 1 rfl rfl rfl rfl ?_
  intro w35 hS
  refine seq_do hA rfl rfl rfl (does_assign rfl) ?_
  intro a hA
  refine seq_end ?_
  refine hK15 _ _ ?_
  refine wp_ret ?_
  refine hret _ _ ?_
  refine ends (v := .tuple #[.agg #[.bool false, .slice p31_1 ((words (fld b ((x - b.toNat) / 2 ^ S) 0 (E - S))).length) p31_c1, .slice p31_2 1 p31_c2, .bool false, .slice p31_3 0 p31_c3, .slice p31_4 1 p31_c4], .int .i64 0]) hA rfl (.cons (res_cell hS BiP_isS_26 rfl 1 rfl (cs := [.bool false, .slice p31_1 ((words (fld b ((x - b.toNat) / 2 ^ S) 0 (E - S))).length) p31_c1, .slice p31_2 1 p31_c2, .bool false, .slice p31_3 0 p31_c3, .slice p31_4 1 p31_c4]) rfl rfl) (.cons (res_tmp rfl) .nil)) rfl ?_
  rw [fieldQ_ok hw h1 h2, ← fld_down]
  exact ⟨p31_1, p31_c1, p31_2, p31_c2, p31_3, p31_c3, p31_4, p31_c4, rfl, ⟨⟨(hS.rd 3 rfl), hn32.s1.nil, hn32.s1.cap⟩, ⟨(hS.rd 2 rfl), hn32.s2.nil, hn32.s2.cap⟩, ⟨(hS.rd 1 rfl), hn32.s3.nil, hn32.s3.cap⟩, ⟨(hS.rd 0 rfl), hn32.s4.nil, hn32.s4.cap⟩⟩, hS.bel⟩
end Go.Proofs.Ytmibkfihcihphaa
namespace Go.Proofs.Ytmibkfihcihphaa
open Go.RowKit
set_option linter.unusedVariables false
set_option linter.unusedSimpArgs false
set_option maxRecDepth 100000

theorem fieldPQ_any {w : World} {q : Q6} {a1 a2 a3 a4 : Option Addr} {ac1 ac2 ac3 ac4 : Nat} (ha : Nm w q a1 ac1 a2 ac2 a3 ac3 a4 ac4) (hl : LenQ q) {s e : Int} : Calls Try.prog 23 #[numV q a1 ac1 a2 ac2 a3 ac3 a4 ac4, .int .i64 s, .int .i64 e] w (AnsN w (fieldQ q s e)) := by
  rcases want1_cases q with ⟨hw, h1⟩ | ⟨hw, _⟩
  · obtain ⟨b, x, rfl, hx, hb⟩ := wholeOf ha h1
    by_cases hs : s < 0 ∨ e < s ∨ 16384 < e
    · exact fieldPA_any ha hl hw hx hb hs
    · obtain ⟨S, rfl⟩ := Int.eq_ofNat_of_zero_le (show 0 ≤ s by omega)
      obtain ⟨E, rfl⟩ := Int.eq_ofNat_of_zero_le (show 0 ≤ e by omega)
      exact fieldPW_any ha hl (by omega) (by omega) hw hx hb
  · exact fieldPE_any ha hl hw
theorem lenQ_field (q : Q6) (s e : Int) : LenQ (fieldQ q s e).1 := by
  unfold fieldQ
  split
  · split
    · exact lenQ_zero
    · refine lenQ_whole (fld_len ?_)
      omega
  · exact lenQ_zero
end Go.Proofs.Ytmibkfihcihphaa
namespace Go.Proofs.Ytmibkfihcihphaa
open Go.RowKit
set_option linter.unusedVariables false
set_option linter.unusedSimpArgs false
theorem words_two : words 2 = [2] := words_digit (by decide) (by decide)
theorem two_len : (words 2).length ≤ 512 := by rw [words_two]; decide
theorem pow_len {k : Nat} (h : k ≤ 100) : (words (2 ^ k)).length ≤ 512 := by
  refine Nat.le_trans (words_length_le (k := 4) ?_) (by decide)
  rw [pw_two]
  exact Nat.pow_lt_pow_right (by decide) (by omega)
theorem pwR_two : ∀ k, pwR ((sgn false 2 : Int) : Rat) 0 k = (((sgn false (2 ^ k) : Int) : Rat), 0)
  | 0 => rfl
  | k + 1 => by
    have ih := pwR_two k
    show ((pwR ((sgn false 2 : Int) : Rat) 0 k).1 * ((sgn false 2 : Int) : Rat) - (pwR ((sgn false 2 : Int) : Rat) 0 k).2 * 0, (pwR ((sgn false 2 : Int) : Rat) 0 k).1 * 0 + (pwR ((sgn false 2 : Int) : Rat) 0 k).2 * ((sgn false 2 : Int) : Rat)) = _
    rw [ih]
    have e : (sgn false (2 ^ (k + 1)) : Int) = sgn false (2 ^ k) * sgn false 2 := by
      show ((2 ^ (k + 1) : Nat) : Int) = ((2 ^ k : Nat) : Int) * ((2 : Nat) : Int)
      rw [Nat.pow_succ, Int.natCast_mul]
    rw [e, Rat.intCast_mul]
    congr 1 <;> grind
theorem pwB_two {k : Nat} (h : k ≤ 100) : pwB ((sgn false 2 : Int) : Rat) 0 k = true := by
  induction k with
  | zero => rfl
  | succ k ih =>
    refine pwB_step (ih (by omega)) ?_ ?_
    · rw [pwR_two]; exact fitR_whole (pow_len h)
    · rw [pwR_two]; exact fitR_zero
theorem exptQ_two {k : Nat} (h : k ≤ 100) : exptQ (Q6.whole false 2) ((k : Nat) : Int) = (Q6.whole false (2 ^ k), 0) := by
  rw [rat_whole (b := false) (x := 2) (by decide)]
  by_cases h0 : k = 0
  · subst h0
    exact exptQ_0 (fitR_whole two_len) fitR_zero
  · rw [exptQ_pos (fitR_whole two_len) fitR_zero (by omega) (by omega), if_pos (pwB_two h), pwR_two, ratS_fit (fitR_whole (pow_len h)) fitR_zero, ← rat_whole (by simp)]
theorem ratS_int {b : Bool} {X : Nat} (h : b.toNat ≤ X) : ratS ((sgn b X : Int) : Rat) 0 = bigS b X := by
  by_cases k : (words X).length ≤ 512
  · rw [bigS_pos k, ratS_fit (fitR_whole k) fitR_zero, ← rat_whole h]
  · rw [bigS_neg k, ratS_no]
    rintro ⟨a, _⟩
    have := a.1
    rw [Rat.num_intCast, sgn_abs] at this
    exact k this
theorem spX_int (n : Int) : spX (n : Rat) 0 = n ∧ spD (n : Rat) 0 = 1 := by
  unfold spX spD spG
  rw [Rat.num_intCast, Rat.den_intCast, show (0 : Rat).den = 1 from rfl]
  simp
theorem quo_int (n : Int) {m : Nat} (hm : m ≠ 0) : quoR (n : Rat) (((m : Nat) : Int) : Rat) = n / ((m : Nat) : Int) ∧ remR (n : Rat) (((m : Nat) : Int) : Rat) = (((n % ((m : Nat) : Int)).toNat : Int) : Rat) := by
  obtain ⟨a1, a2⟩ := spX_int n
  obtain ⟨c1, c2⟩ := spX_int ((m : Nat) : Int)
  constructor
  · unfold quoR dmT
    rw [a1, a2, c1, c2, show rb ((m : Nat) : Int) = false from rb_nat m]
    simp
  · unfold remR dmR
    rw [a1, a2, c1, c2]
    simp [Rat.mkRat_one]
theorem zrow_div (b : Bool) (y k : Nat) : zrow b y / ((2 ^ k : Nat) : Int) = zrow b (y / 2 ^ k) := by
  unfold zrow
  cases b with
  | false => simp
  | true =>
    have e := Int.negSucc_ediv y (show (0 : Int) < ((2 ^ k : Nat) : Int) by have := Nat.two_pow_pos k; omega)
    rw [show Int.negSucc y = -((y : Int) + 1) from by omega] at e
    simp only [if_true]
    rw [e]
    rfl
theorem zrow_mod (b : Bool) (y k : Nat) : zrow b y % ((2 ^ k : Nat) : Int) = ((fld b y 0 k : Nat) : Int) := by
  have hn : (words y).length ≤ (words y).length + k := by omega
  have e := zrow_val (b := b) hn
  have f := rowL_mod (b := b) (y := y) (n := (words y).length + k) (c := k) (by omega)
  have hp : pw ((words y).length + k) = 2 ^ k * 2 ^ (32 * ((words y).length + k) - k) := by rw [pw_two, ← Nat.pow_add]; congr 1; omega
  rw [e, hp, ← f, Nat.mul_left_comm, Int.natCast_mul (2 ^ k), Int.sub_mul_emod_self_left, Int.natCast_emod]
theorem moves_facts {b : Bool} {x : Nat} (hx : (words x).length ≤ 512) (hb : b.toNat ≤ x) {k : Nat} (hk : k < 100) :
    shiftQ (Q6.whole b x) ((k : Nat) : Int) = mulQ (Q6.whole b x) (Q6.whole false (2 ^ k)) ∧
    ((shiftQ (Q6.whole b x) ((k : Nat) : Int)).2 = 0 → sameQ (shiftQ (Q6.whole b x) ((k : Nat) : Int)).1 (mulQ (Q6.whole b x) (Q6.whole false (2 ^ k))).1 = true) ∧
    (shiftQ (Q6.whole b x) (-((k : Nat) : Int))).2 = 0 ∧ (dmQ (Q6.whole b x) (Q6.whole false (2 ^ k))).2.2 = 0 ∧
    sameQ (shiftQ (Q6.whole b x) (-((k : Nat) : Int))).1 (dmQ (Q6.whole b x) (Q6.whole false (2 ^ k))).1 = true ∧
    (fieldQ (Q6.whole b x) 0 ((k : Nat) : Int)).2 = 0 ∧ sameQ (fieldQ (Q6.whole b x) 0 ((k : Nat) : Int)).1 (dmQ (Q6.whole b x) (Q6.whole false (2 ^ k))).2.1 = true := by
  have hw := want1_whole hx hb
  have hp := pow_len (k := k) (by omega)
  have h2 := Nat.two_pow_pos k
  have hbx : b.toNat ≤ x * 2 ^ k := Nat.le_trans hb (Nat.le_mul_of_pos_right x h2)
  have e1 : shiftQ (Q6.whole b x) ((k : Nat) : Int) = bigS b (x * 2 ^ k) := by
    unfold shiftQ
    rw [if_pos hw, if_neg (by omega), if_neg (by omega), Int.toNat_natCast]
    simp only [Q6.whole, val_words]
  have e2 : mulQ (Q6.whole b x) (Q6.whole false (2 ^ k)) = bigS b (x * 2 ^ k) := by
    rw [rat_whole hb, rat_whole (b := false) (x := 2 ^ k) (by simp), mulQ_rat (fitR_whole hx) fitR_zero (fitR_whole hp) fitR_zero, ← ratS_int hbx, ← sgn_scale, Rat.intCast_mul]
    congr 1
    · show _ - _ = ((sgn b x : Int) : Rat) * (((2 ^ k : Nat) : Int) : Rat)
      show ((sgn b x : Int) : Rat) * (((2 ^ k : Nat) : Int) : Rat) - 0 * 0 = _
      grind
    · grind
  have l4 : (words ((x - b.toNat) / 2 ^ k + b.toNat)).length ≤ 512 := by
    refine Nat.le_trans (words_mono ?_) hx
    have := Nat.div_le_self (x - b.toNat) (2 ^ k)
    omega
  have e4 : shiftQ (Q6.whole b x) (-((k : Nat) : Int)) = (Q6.whole b ((x - b.toNat) / 2 ^ k + b.toNat), 0) := by
    unfold shiftQ
    rw [if_pos hw, if_neg (by omega)]
    by_cases h0 : k = 0
    · subst h0
      rw [if_neg (by omega)]
      simp only [Q6.whole, val_words]
      have t : x * 2 ^ (-((0 : Nat) : Int)).toNat = (x - b.toNat) / 2 ^ 0 + b.toNat := by
        show x * 2 ^ 0 = _
        rw [Nat.pow_zero, Nat.div_one]
        omega
      rw [t, bigS_pos l4]
      rfl
    · rw [if_pos (by omega), Int.neg_neg, Int.toNat_natCast]
      simp only [Q6.whole, val_words]
      rw [bigS_pos l4]
      rfl
  have e5 : fieldQ (Q6.whole b x) 0 ((k : Nat) : Int) = (Q6.whole false (fld b (x - b.toNat) 0 k), 0) := by
    have := fieldQ_ok (S := 0) (E := k) hw (by omega) (by omega)
    exact this
  have l5 : (words (fld b (x - b.toNat) 0 k)).length ≤ 512 := Nat.le_trans (words_mono (Nat.le_of_lt (fld_lt b (x - b.toNat) 0 k))) hp
  have e6 : dmQ (Q6.whole b x) (Q6.whole false (2 ^ k)) = (Q6.whole b ((x - b.toNat) / 2 ^ k + b.toNat), Q6.whole false (fld b (x - b.toNat) 0 k), 0) := by
    have hne : (((2 ^ k : Nat) : Int) : Rat) ≠ 0 := by
      rw [Ne, Rat.intCast_eq_zero_iff]
      omega
    rw [rat_whole hb, rat_whole (b := false) (x := 2 ^ k) (by simp)]
    unfold dmQ
    rw [if_pos (by rw [wantR2_rat (fitR_whole hx) fitR_zero (fitR_whole hp) fitR_zero, if_pos ⟨rfl, rfl⟩]), reQ_rat, reQ_rat]
    show (if (((2 ^ k : Nat) : Int) : Rat) = 0 then _ else dmS (ratS (mkRat (quoR ((sgn b x : Int) : Rat) (((2 ^ k : Nat) : Int) : Rat)) 1) 0) (ratS (remR ((sgn b x : Int) : Rat) (((2 ^ k : Nat) : Int) : Rat)) 0)) = _
    obtain ⟨q1, q2⟩ := quo_int (sgn b x) (m := 2 ^ k) (by omega)
    rw [if_neg hne, q1, q2, ← zrow_sgn hb, zrow_div, zrow_mod, Rat.mkRat_one, ← sgn_zrow, ratS_int (Nat.le_add_left _ _), Int.toNat_natCast]
    rw [show ((((fld b (x - b.toNat) 0 k : Nat) : Int)) : Rat) = ((sgn false (fld b (x - b.toNat) 0 k) : Int) : Rat) from rfl, ratS_int (by simp), bigS_pos l4, bigS_pos l5]
    rfl
  rw [e1, e2, e4, e5, e6]
  refine ⟨rfl, ?_, rfl, rfl, sameQ_self (soundQ_whole l4 (Nat.le_add_left _ _)), rfl, sameQ_self (soundQ_whole l5 (by simp))⟩
  intro h
  rw [(bigS_ok h).1]
  exact sameQ_self (soundQ_whole (bigS_ok h).2 hbx)
end Go.Proofs.Ytmibkfihcihphaa
namespace Go.Proofs.Ytmibkfihcihphaa
open Go.RowKit
set_option linter.unusedVariables false
set_option linter.unusedSimpArgs false
set_option maxRecDepth 100000
theorem BiU_isS_26 : IsS Try.prog 26 6 := ⟨⟨_, Try.underlying26⟩, by kernel_rfl⟩
theorem shiftQ_as {w : World} {q : Q6} {a1 a2 a3 a4 : Option Addr} {ac1 ac2 ac3 ac4 : Nat} (ha : Nm w q a1 ac1 a2 ac2 a3 ac3 a4 ac4) (hl : LenQ q) {n : Int} {z : Q6 × Int} (hz : shiftQ q n = z) : Calls Try.prog 22 #[numV q a1 ac1 a2 ac2 a3 ac3 a4 ac4, .int .i64 n] w (AnsN w z) := hz ▸ shiftP_any ha hl
theorem fieldQ_as {w : World} {q : Q6} {a1 a2 a3 a4 : Option Addr} {ac1 ac2 ac3 ac4 : Nat} (ha : Nm w q a1 ac1 a2 ac2 a3 ac3 a4 ac4) (hl : LenQ q) {s e : Int} {z : Q6 × Int} (hz : fieldQ q s e = z) : Calls Try.prog 23 #[numV q a1 ac1 a2 ac2 a3 ac3 a4 ac4, .int .i64 s, .int .i64 e] w (AnsN w z) := hz ▸ fieldPQ_any ha hl
theorem lenQ_shiftQ (q : Q6) (n : Int) : LenQ (shiftQ q n).1 := by
  unfold shiftQ
  split
  · split
    · exact lenQ_z
    · split <;> exact lenQ_bigS _ _
  · exact lenQ_z
set_option maxHeartbeats 2000000 in
theorem movesW_any {w : World} {p : Q6} {a1 a2 a3 a4 : Option Addr} {ac1 ac2 ac3 ac4 : Nat} (ha : Nm w p a1 ac1 a2 ac2 a3 ac3 a4 ac4) (hl : LenQ p) {n k : Nat} (hn : n ≤ 255) (hk : n % 100 = k) (k1 : k < 100) {z1 z2 z3 z4 z5 : Q6 × Int} {t : Q6 × Q6 × Int} (e1 : exptQ (Q6.whole false 2) ((k : Nat) : Int) = z1) (l1 : LenQ z1.1) (e2 : shiftQ p ((k : Nat) : Int) = z2) (l2 : LenQ z2.1) (e3 : mulQ p z1.1 = z3) (l3 : LenQ z3.1) (e4 : shiftQ p (-((k : Nat) : Int)) = z4) (l4 : LenQ z4.1) (dt : dmQ p z1.1 = t) (lt1 : LenQ t.1) (lt2 : LenQ t.2.1) (e5 : fieldQ p 0 ((k : Nat) : Int) = z5) (l5 : LenQ z5.1) (hH : wholeQ p = true → z2.2 = z3.2 ∧ (z2.2 = 0 → sameQ z2.1 z3.1 = true) ∧ z4.2 = 0 ∧ t.2.2 = 0 ∧ sameQ z4.1 t.1 = true ∧ z5.2 = 0 ∧ sameQ z5.1 t.2.1 = true) : Calls Try.prog 6 #[numV p a1 ac1 a2 ac2 a3 ac3 a4 ac4, .int .u8 ((n : Nat) : Int)] w fun e w' => e = .returned (.bool true) ∧ Below w.heap.size w w' := by
  have hS : St w w [] [(a4, p.q2), (a3, p.t2), (a2, p.q1), (a1, p.t1)] [] := ((((St.start w).addR ha.s1.rd).addR ha.s2.rd).addR ha.s3.rd).addR ha.s4.rd
  refine walk_of (l := [(0, .agg #[.bool p.b1, .slice a1 p.t1.length ac1, .slice a2 p.q1.length ac2, .bool p.b2, .slice a3 p.t2.length ac3, .slice a4 p.q2.length ac4]), (1, .int .u8 (((n : Nat) : Int)))]) Try.func6 rfl Try.ntmps6 rfl rfl ?_
  intro Q hret hnorm hP a hA
  refine wp_seq_k (fun K1 hK1 => ?_)
  refine wp_region_lit ?_
  refine seq_new (vs := [.bool p.b1, .slice a1 p.t1.length ac1, .slice a2 p.q1.length ac2, .bool p.b2, .slice a3 p.t2.length ac3, .slice a4 p.q2.length ac4]) (t := 26) hA hS rfl rfl rfl (fun g => .pointer (some ⟨g, 0, none⟩)) (does_box rfl rfl) rfl ?_
  intro g2 w3 hS a hA
  refine seq_do hA rfl rfl rfl (does_assign rfl) ?_
  intro a hA
  refine seq_end ?_
  refine hK1 _ _ ?_
  refine wp_seq_k (fun K4 hK4 => ?_)
  refine wp_region_lit ?_
  refine seq_do hA rfl rfl rfl (does_move rfl) ?_
  intro a hA
  refine seq_do (v := .int .u8 (((k : Nat) : Int))) hA rfl rfl rfl (does_bin rfl rfl (bin_rem8 (k := 100) (by omega) (by decide) hk)) ?_
  intro a hA
  refine seq_do (v := .int .i64 (((k : Nat) : Int))) hA rfl rfl rfl (does_convert rfl (conv_u8i Try.underlying5 Try.underlying3 (by omega))) ?_
  intro a hA
  refine seq_do hA rfl rfl rfl (does_assign rfl) ?_
  intro a hA
  refine seq_end ?_
  refine hK4 _ _ ?_
  refine wp_seq_k (fun K5 hK5 => ?_)
  refine wp_seq_k (fun K6 hK6 => ?_)
  refine wp_region_lit ?_
  refine seq_call hA rfl rfl rfl (enters_func  rfl rfl (fun w => by kernel_rfl)) (awake4_any) ?_
  rintro _ w8 ⟨rfl, hb7⟩
  replace hS := hS.call hb7
  refine ⟨_, rfl, ?_⟩
  intro a hA
  refine seq_do (v := .bool false) hA rfl rfl rfl (does_un rfl un_not) ?_
  intro a hA
  refine seq_do hA rfl rfl rfl (does_move rfl) ?_
  intro a hA
  refine seq_do (v := .agg #[.bool p.b1, .slice a1 p.t1.length ac1, .slice a2 p.q1.length ac2, .bool p.b2, .slice a3 p.t2.length ac3, .slice a4 p.q2.length ac4]) hA rfl rfl rfl (does_loadS hS BiU_isS_26 rfl 0 rfl (cs := [.bool p.b1, .slice a1 p.t1.length ac1, .slice a2 p.q1.length ac2, .bool p.b2, .slice a3 p.t2.length ac3, .slice a4 p.q2.length ac4]) rfl rfl) ?_
  intro a hA
  rcases Bool.eq_false_or_eq_true (wholeQ p) with hb9 | hb9
  · refine seq_call hA rfl rfl rfl (enters_func  rfl rfl (fun w => by kernel_rfl)) (wholeQ_any (show Nm _ p a1 ac1 a2 ac2 a3 ac3 a4 ac4 from ⟨⟨(hS.rd 3 rfl), ha.s1.nil, ha.s1.cap⟩, ⟨(hS.rd 2 rfl), ha.s2.nil, ha.s2.cap⟩, ⟨(hS.rd 1 rfl), ha.s3.nil, ha.s3.cap⟩, ⟨(hS.rd 0 rfl), ha.s4.nil, ha.s4.cap⟩⟩) hl hb9) ?_
    rintro _ w11 ⟨rfl, hb10⟩
    replace hS := hS.call hb10
    refine ⟨_, rfl, ?_⟩
    intro a hA
    refine seq_do (v := .bool false) hA rfl rfl rfl (does_un rfl un_not) ?_
    intro a hA
    refine seq_do (v := .bool false) hA rfl rfl rfl (does_pick rfl rfl rfl rfl) ?_
    intro a hA
    refine seq_end ?_
    refine hK6 _ _ ?_
    refine wp_cond_false (hA.ev rfl) ?_
    refine wp_skip ?_
    refine hK5 _ _ ?_
    refine wp_seq_k (fun K12 hK12 => ?_)
    refine wp_region_lit ?_
    refine seq_call hA rfl rfl rfl (enters_func  rfl rfl (fun w => by kernel_rfl)) ((show Calls Try.prog 13 #[.int .i64 (2)] _ (AnsV _ (Q6.whole false 2)) from intP_any (k := 2) (by decide))) ?_
    rintro _ w16 ⟨p13_1, p13_c1, p13_2, p13_c2, p13_3, p13_c3, p13_4, p13_c4, rfl, hn14, hb15⟩
    replace hS := hS.call hb15
    replace hS := hS.addR hn14.s1.rd
    replace hS := hS.addR hn14.s2.rd
    replace hS := hS.addR hn14.s3.rd
    replace hS := hS.addR hn14.s4.rd
    refine ⟨_, rfl, ?_⟩
    intro a hA
    refine seq_do hA rfl rfl rfl (does_move rfl) ?_
    intro a hA
    refine seq_call hA rfl rfl rfl (enters_func  rfl rfl (fun w => by kernel_rfl)) (exptQ_as (show Nm _ (Q6.whole false 2) p13_1 p13_c1 p13_2 p13_c2 p13_3 p13_c3 p13_4 p13_c4 from ⟨⟨(hS.rd 3 rfl), hn14.s1.nil, hn14.s1.cap⟩, ⟨(hS.rd 2 rfl), hn14.s2.nil, hn14.s2.cap⟩, ⟨(hS.rd 1 rfl), hn14.s3.nil, hn14.s3.cap⟩, ⟨(hS.rd 0 rfl), hn14.s4.nil, hn14.s4.cap⟩⟩) (lenQ_whole two_len) e1) ?_
    rintro _ w20 ⟨p17_1, p17_c1, p17_2, p17_c2, p17_3, p17_c3, p17_4, p17_c4, rfl, hn18, hb19⟩
    replace hS := hS.call hb19
    replace hS := hS.addR hn18.s1.rd
    replace hS := hS.addR hn18.s2.rd
    replace hS := hS.addR hn18.s3.rd
    replace hS := hS.addR hn18.s4.rd
    refine ⟨_, rfl, ?_⟩
    intro a hA
    refine seq_do hA rfl rfl rfl (does_move rfl) ?_
    intro a hA
    refine seq_do (v := .agg #[.bool z1.1.b1, .slice p17_1 z1.1.t1.length p17_c1, .slice p17_2 z1.1.q1.length p17_c2, .bool z1.1.b2, .slice p17_3 z1.1.t2.length p17_c3, .slice p17_4 z1.1.q2.length p17_c4]) hA rfl rfl rfl (does_extract (vs := [.agg #[.bool z1.1.b1, .slice p17_1 z1.1.t1.length p17_c1, .slice p17_2 z1.1.q1.length p17_c2, .bool z1.1.b2, .slice p17_3 z1.1.t2.length p17_c3, .slice p17_4 z1.1.q2.length p17_c4], .int .i64 z1.2]) rfl rfl) ?_
    intro a hA
    refine seq_do (v := .int .i64 z1.2) hA rfl rfl rfl (does_extract (vs := [.agg #[.bool z1.1.b1, .slice p17_1 z1.1.t1.length p17_c1, .slice p17_2 z1.1.q1.length p17_c2, .bool z1.1.b2, .slice p17_3 z1.1.t2.length p17_c3, .slice p17_4 z1.1.q2.length p17_c4], .int .i64 z1.2]) rfl rfl) ?_
    intro a hA
    refine seq_new (vs := [.bool false, .slice none 0 0, .slice none 0 0, .bool false, .slice none 0 0, .slice none 0 0]) (t := 26) hA hS rfl rfl rfl (fun g => .pointer (some ⟨g, 0, none⟩)) (does_alloc (z := .agg #[.bool false, .slice none 0 0, .slice none 0 0, .bool false, .slice none 0 0, .slice none 0 0]) (by kernel_rfl) rfl) rfl ?_
    intro g21 w22 hS a hA
    refine seq_store (us := [.bool z1.1.b1, .slice p17_1 z1.1.t1.length p17_c1, .slice p17_2 z1.1.q1.length p17_c2, .bool z1.1.b2, .slice p17_3 z1.1.t2.length p17_c3, .slice p17_4 z1.1.q2.length p17_c4]) hA hS rfl rfl (sets_store (cs := [.bool z1.1.b1, .slice p17_1 z1.1.t1.length p17_c1, .slice p17_2 z1.1.q1.length p17_c2, .bool z1.1.b2, .slice p17_3 z1.1.t2.length p17_c3, .slice p17_4 z1.1.q2.length p17_c4]) rfl rfl rfl (by kernel_rfl) hS 0 rfl rfl rfl) 0 rfl rfl rfl rfl ?_
    intro w23 hS
    refine seq_do hA rfl rfl rfl (does_assign rfl) ?_
    intro a hA
    refine seq_end ?_
    refine hK12 _ _ ?_
    refine wp_seq_k (fun K24 hK24 => ?_)
    refine wp_region_lit ?_
    refine seq_do (v := .agg #[.bool p.b1, .slice a1 p.t1.length ac1, .slice a2 p.q1.length ac2, .bool p.b2, .slice a3 p.t2.length ac3, .slice a4 p.q2.length ac4]) hA rfl rfl rfl (does_loadS hS BiU_isS_26 rfl 1 rfl (cs := [.bool p.b1, .slice a1 p.t1.length ac1, .slice a2 p.q1.length ac2, .bool p.b2, .slice a3 p.t2.length ac3, .slice a4 p.q2.length ac4]) rfl rfl) ?_
    intro a hA
    refine seq_do hA rfl rfl rfl (does_move rfl) ?_
    intro a hA
    refine seq_call hA rfl rfl rfl (enters_func  rfl rfl (fun w => by kernel_rfl)) (shiftQ_as (show Nm _ p a1 ac1 a2 ac2 a3 ac3 a4 ac4 from ⟨⟨(hS.rd 11 rfl), ha.s1.nil, ha.s1.cap⟩, ⟨(hS.rd 10 rfl), ha.s2.nil, ha.s2.cap⟩, ⟨(hS.rd 9 rfl), ha.s3.nil, ha.s3.cap⟩, ⟨(hS.rd 8 rfl), ha.s4.nil, ha.s4.cap⟩⟩) hl e2) ?_
    rintro _ w28 ⟨p25_1, p25_c1, p25_2, p25_c2, p25_3, p25_c3, p25_4, p25_c4, rfl, hn26, hb27⟩
    replace hS := hS.call hb27
    replace hS := hS.addR hn26.s1.rd
    replace hS := hS.addR hn26.s2.rd
    replace hS := hS.addR hn26.s3.rd
    replace hS := hS.addR hn26.s4.rd
    refine ⟨_, rfl, ?_⟩
    intro a hA
    refine seq_do hA rfl rfl rfl (does_move rfl) ?_
    intro a hA
    refine seq_do (v := .agg #[.bool z2.1.b1, .slice p25_1 z2.1.t1.length p25_c1, .slice p25_2 z2.1.q1.length p25_c2, .bool z2.1.b2, .slice p25_3 z2.1.t2.length p25_c3, .slice p25_4 z2.1.q2.length p25_c4]) hA rfl rfl rfl (does_extract (vs := [.agg #[.bool z2.1.b1, .slice p25_1 z2.1.t1.length p25_c1, .slice p25_2 z2.1.q1.length p25_c2, .bool z2.1.b2, .slice p25_3 z2.1.t2.length p25_c3, .slice p25_4 z2.1.q2.length p25_c4], .int .i64 z2.2]) rfl rfl) ?_
    intro a hA
    refine seq_do (v := .int .i64 z2.2) hA rfl rfl rfl (does_extract (vs := [.agg #[.bool z2.1.b1, .slice p25_1 z2.1.t1.length p25_c1, .slice p25_2 z2.1.q1.length p25_c2, .bool z2.1.b2, .slice p25_3 z2.1.t2.length p25_c3, .slice p25_4 z2.1.q2.length p25_c4], .int .i64 z2.2]) rfl rfl) ?_
    intro a hA
    refine seq_new (vs := [.bool false, .slice none 0 0, .slice none 0 0, .bool false, .slice none 0 0, .slice none 0 0]) (t := 26) hA hS rfl rfl rfl (fun g => .pointer (some ⟨g, 0, none⟩)) (does_alloc (z := .agg #[.bool false, .slice none 0 0, .slice none 0 0, .bool false, .slice none 0 0, .slice none 0 0]) (by kernel_rfl) rfl) rfl ?_
    intro g29 w30 hS a hA
    refine seq_store (us := [.bool z2.1.b1, .slice p25_1 z2.1.t1.length p25_c1, .slice p25_2 z2.1.q1.length p25_c2, .bool z2.1.b2, .slice p25_3 z2.1.t2.length p25_c3, .slice p25_4 z2.1.q2.length p25_c4]) hA hS rfl rfl (sets_store (cs := [.bool z2.1.b1, .slice p25_1 z2.1.t1.length p25_c1, .slice p25_2 z2.1.q1.length p25_c2, .bool z2.1.b2, .slice p25_3 z2.1.t2.length p25_c3, .slice p25_4 z2.1.q2.length p25_c4]) rfl rfl rfl (by kernel_rfl) hS 0 rfl rfl rfl) 0 rfl rfl rfl rfl ?_
    intro w31 hS
    refine seq_do hA rfl rfl rfl (does_assign rfl) ?_
    intro a hA
    refine seq_end ?_
    refine hK24 _ _ ?_
    refine wp_seq_k (fun K32 hK32 => ?_)
    refine wp_region_lit ?_
    refine seq_do (v := .agg #[.bool p.b1, .slice a1 p.t1.length ac1, .slice a2 p.q1.length ac2, .bool p.b2, .slice a3 p.t2.length ac3, .slice a4 p.q2.length ac4]) hA rfl rfl rfl (does_loadS hS BiU_isS_26 rfl 2 rfl (cs := [.bool p.b1, .slice a1 p.t1.length ac1, .slice a2 p.q1.length ac2, .bool p.b2, .slice a3 p.t2.length ac3, .slice a4 p.q2.length ac4]) rfl rfl) ?_
    intro a hA
    refine seq_do (v := .agg #[.bool z1.1.b1, .slice p17_1 z1.1.t1.length p17_c1, .slice p17_2 z1.1.q1.length p17_c2, .bool z1.1.b2, .slice p17_3 z1.1.t2.length p17_c3, .slice p17_4 z1.1.q2.length p17_c4]) hA rfl rfl rfl (does_loadS hS BiU_isS_26 rfl 1 rfl (cs := [.bool z1.1.b1, .slice p17_1 z1.1.t1.length p17_c1, .slice p17_2 z1.1.q1.length p17_c2, .bool z1.1.b2, .slice p17_3 z1.1.t2.length p17_c3, .slice p17_4 z1.1.q2.length p17_c4]) rfl rfl) ?_
    intro a hA
    refine seq_call hA rfl rfl rfl (enters_func  rfl rfl (fun w => by kernel_rfl)) (mulQ_as (show Nm _ p a1 ac1 a2 ac2 a3 ac3 a4 ac4 from ⟨⟨(hS.rd 15 rfl), ha.s1.nil, ha.s1.cap⟩, ⟨(hS.rd 14 rfl), ha.s2.nil, ha.s2.cap⟩, ⟨(hS.rd 13 rfl), ha.s3.nil, ha.s3.cap⟩, ⟨(hS.rd 12 rfl), ha.s4.nil, ha.s4.cap⟩⟩) hl (show Nm _ z1.1 p17_1 p17_c1 p17_2 p17_c2 p17_3 p17_c3 p17_4 p17_c4 from ⟨⟨(hS.rd 7 rfl), hn18.s1.nil, hn18.s1.cap⟩, ⟨(hS.rd 6 rfl), hn18.s2.nil, hn18.s2.cap⟩, ⟨(hS.rd 5 rfl), hn18.s3.nil, hn18.s3.cap⟩, ⟨(hS.rd 4 rfl), hn18.s4.nil, hn18.s4.cap⟩⟩) l1 e3) ?_
    rintro _ w36 ⟨p33_1, p33_c1, p33_2, p33_c2, p33_3, p33_c3, p33_4, p33_c4, rfl, hn34, hb35⟩
    replace hS := hS.call hb35
    replace hS := hS.addR hn34.s1.rd
    replace hS := hS.addR hn34.s2.rd
    replace hS := hS.addR hn34.s3.rd
    replace hS := hS.addR hn34.s4.rd
    refine ⟨_, rfl, ?_⟩
    intro a hA
    refine seq_do hA rfl rfl rfl (does_move rfl) ?_
    intro a hA
    refine seq_do (v := .agg #[.bool z3.1.b1, .slice p33_1 z3.1.t1.length p33_c1, .slice p33_2 z3.1.q1.length p33_c2, .bool z3.1.b2, .slice p33_3 z3.1.t2.length p33_c3, .slice p33_4 z3.1.q2.length p33_c4]) hA rfl rfl rfl (does_extract (vs := [.agg #[.bool z3.1.b1, .slice p33_1 z3.1.t1.length p33_c1, .slice p33_2 z3.1.q1.length p33_c2, .bool z3.1.b2, .slice p33_3 z3.1.t2.length p33_c3, .slice p33_4 z3.1.q2.length p33_c4], .int .i64 z3.2]) rfl rfl) ?_
    intro a hA
    refine seq_do (v := .int .i64 z3.2) hA rfl rfl rfl (does_extract (vs := [.agg #[.bool z3.1.b1, .slice p33_1 z3.1.t1.length p33_c1, .slice p33_2 z3.1.q1.length p33_c2, .bool z3.1.b2, .slice p33_3 z3.1.t2.length p33_c3, .slice p33_4 z3.1.q2.length p33_c4], .int .i64 z3.2]) rfl rfl) ?_
    intro a hA
    refine seq_new (vs := [.bool false, .slice none 0 0, .slice none 0 0, .bool false, .slice none 0 0, .slice none 0 0]) (t := 26) hA hS rfl rfl rfl (fun g => .pointer (some ⟨g, 0, none⟩)) (does_alloc (z := .agg #[.bool false, .slice none 0 0, .slice none 0 0, .bool false, .slice none 0 0, .slice none 0 0]) (by kernel_rfl) rfl) rfl ?_
    intro g37 w38 hS a hA
    refine seq_store (us := [.bool z3.1.b1, .slice p33_1 z3.1.t1.length p33_c1, .slice p33_2 z3.1.q1.length p33_c2, .bool z3.1.b2, .slice p33_3 z3.1.t2.length p33_c3, .slice p33_4 z3.1.q2.length p33_c4]) hA hS rfl rfl (sets_store (cs := [.bool z3.1.b1, .slice p33_1 z3.1.t1.length p33_c1, .slice p33_2 z3.1.q1.length p33_c2, .bool z3.1.b2, .slice p33_3 z3.1.t2.length p33_c3, .slice p33_4 z3.1.q2.length p33_c4]) rfl rfl rfl (by kernel_rfl) hS 0 rfl rfl rfl) 0 rfl rfl rfl rfl ?_
    intro w39 hS
    refine seq_do hA rfl rfl rfl (does_assign rfl) ?_
    intro a hA
    refine seq_end ?_
    refine hK32 _ _ ?_
    refine wp_seq_k (fun K40 hK40 => ?_)
    refine wp_region_lit ?_
    refine seq_do (v := .agg #[.bool p.b1, .slice a1 p.t1.length ac1, .slice a2 p.q1.length ac2, .bool p.b2, .slice a3 p.t2.length ac3, .slice a4 p.q2.length ac4]) hA rfl rfl rfl (does_loadS hS BiU_isS_26 rfl 3 rfl (cs := [.bool p.b1, .slice a1 p.t1.length ac1, .slice a2 p.q1.length ac2, .bool p.b2, .slice a3 p.t2.length ac3, .slice a4 p.q2.length ac4]) rfl rfl) ?_
    intro a hA
    refine seq_do hA rfl rfl rfl (does_move rfl) ?_
    intro a hA
    refine seq_do (v := .int .i64 (-(((k : Nat) : Int)))) hA rfl rfl rfl (does_un rfl (un_neg (i64In (by omega) (by omega)))) ?_
    intro a hA
    refine seq_call hA rfl rfl rfl (enters_func  rfl rfl (fun w => by kernel_rfl)) (shiftQ_as (show Nm _ p a1 ac1 a2 ac2 a3 ac3 a4 ac4 from ⟨⟨(hS.rd 19 rfl), ha.s1.nil, ha.s1.cap⟩, ⟨(hS.rd 18 rfl), ha.s2.nil, ha.s2.cap⟩, ⟨(hS.rd 17 rfl), ha.s3.nil, ha.s3.cap⟩, ⟨(hS.rd 16 rfl), ha.s4.nil, ha.s4.cap⟩⟩) hl e4) ?_
    rintro _ w44 ⟨p41_1, p41_c1, p41_2, p41_c2, p41_3, p41_c3, p41_4, p41_c4, rfl, hn42, hb43⟩
    replace hS := hS.call hb43
    replace hS := hS.addR hn42.s1.rd
    replace hS := hS.addR hn42.s2.rd
    replace hS := hS.addR hn42.s3.rd
    replace hS := hS.addR hn42.s4.rd
    refine ⟨_, rfl, ?_⟩
    intro a hA
    refine seq_do hA rfl rfl rfl (does_move rfl) ?_
    intro a hA
    refine seq_do (v := .agg #[.bool z4.1.b1, .slice p41_1 z4.1.t1.length p41_c1, .slice p41_2 z4.1.q1.length p41_c2, .bool z4.1.b2, .slice p41_3 z4.1.t2.length p41_c3, .slice p41_4 z4.1.q2.length p41_c4]) hA rfl rfl rfl (does_extract (vs := [.agg #[.bool z4.1.b1, .slice p41_1 z4.1.t1.length p41_c1, .slice p41_2 z4.1.q1.length p41_c2, .bool z4.1.b2, .slice p41_3 z4.1.t2.length p41_c3, .slice p41_4 z4.1.q2.length p41_c4], .int .i64 z4.2]) rfl rfl) ?_
    intro a hA
    refine seq_do (v := .int .i64 z4.2) hA rfl rfl rfl (does_extract (vs := [.agg #[.bool z4.1.b1, .slice p41_1 z4.1.t1.length p41_c1, .slice p41_2 z4.1.q1.length p41_c2, .bool z4.1.b2, .slice p41_3 z4.1.t2.length p41_c3, .slice p41_4 z4.1.q2.length p41_c4], .int .i64 z4.2]) rfl rfl) ?_
    intro a hA
    refine seq_new (vs := [.bool false, .slice none 0 0, .slice none 0 0, .bool false, .slice none 0 0, .slice none 0 0]) (t := 26) hA hS rfl rfl rfl (fun g => .pointer (some ⟨g, 0, none⟩)) (does_alloc (z := .agg #[.bool false, .slice none 0 0, .slice none 0 0, .bool false, .slice none 0 0, .slice none 0 0]) (by kernel_rfl) rfl) rfl ?_
    intro g45 w46 hS a hA
    refine seq_store (us := [.bool z4.1.b1, .slice p41_1 z4.1.t1.length p41_c1, .slice p41_2 z4.1.q1.length p41_c2, .bool z4.1.b2, .slice p41_3 z4.1.t2.length p41_c3, .slice p41_4 z4.1.q2.length p41_c4]) hA hS rfl rfl (sets_store (cs := [.bool z4.1.b1, .slice p41_1 z4.1.t1.length p41_c1, .slice p41_2 z4.1.q1.length p41_c2, .bool z4.1.b2, .slice p41_3 z4.1.t2.length p41_c3, .slice p41_4 z4.1.q2.length p41_c4]) rfl rfl rfl (by kernel_rfl) hS 0 rfl rfl rfl) 0 rfl rfl rfl rfl ?_
    intro w47 hS
    refine seq_do hA rfl rfl rfl (does_assign rfl) ?_
    intro a hA
    refine seq_end ?_
    refine hK40 _ _ ?_
    refine wp_seq_k (fun K48 hK48 => ?_)
    refine wp_region_lit ?_
    refine seq_do (v := .agg #[.bool p.b1, .slice a1 p.t1.length ac1, .slice a2 p.q1.length ac2, .bool p.b2, .slice a3 p.t2.length ac3, .slice a4 p.q2.length ac4]) hA rfl rfl rfl (does_loadS hS BiU_isS_26 rfl 4 rfl (cs := [.bool p.b1, .slice a1 p.t1.length ac1, .slice a2 p.q1.length ac2, .bool p.b2, .slice a3 p.t2.length ac3, .slice a4 p.q2.length ac4]) rfl rfl) ?_
    intro a hA
    refine seq_do (v := .agg #[.bool z1.1.b1, .slice p17_1 z1.1.t1.length p17_c1, .slice p17_2 z1.1.q1.length p17_c2, .bool z1.1.b2, .slice p17_3 z1.1.t2.length p17_c3, .slice p17_4 z1.1.q2.length p17_c4]) hA rfl rfl rfl (does_loadS hS BiU_isS_26 rfl 3 rfl (cs := [.bool z1.1.b1, .slice p17_1 z1.1.t1.length p17_c1, .slice p17_2 z1.1.q1.length p17_c2, .bool z1.1.b2, .slice p17_3 z1.1.t2.length p17_c3, .slice p17_4 z1.1.q2.length p17_c4]) rfl rfl) ?_
    intro a hA
    refine seq_call hA rfl rfl rfl (enters_func  rfl rfl (fun w => by kernel_rfl)) (dmQ_as (show Nm _ p a1 ac1 a2 ac2 a3 ac3 a4 ac4 from ⟨⟨(hS.rd 23 rfl), ha.s1.nil, ha.s1.cap⟩, ⟨(hS.rd 22 rfl), ha.s2.nil, ha.s2.cap⟩, ⟨(hS.rd 21 rfl), ha.s3.nil, ha.s3.cap⟩, ⟨(hS.rd 20 rfl), ha.s4.nil, ha.s4.cap⟩⟩) hl (show Nm _ z1.1 p17_1 p17_c1 p17_2 p17_c2 p17_3 p17_c3 p17_4 p17_c4 from ⟨⟨(hS.rd 15 rfl), hn18.s1.nil, hn18.s1.cap⟩, ⟨(hS.rd 14 rfl), hn18.s2.nil, hn18.s2.cap⟩, ⟨(hS.rd 13 rfl), hn18.s3.nil, hn18.s3.cap⟩, ⟨(hS.rd 12 rfl), hn18.s4.nil, hn18.s4.cap⟩⟩) l1 dt) ?_
    rintro _ w54 ⟨p49_1, p49_c1, p49_2, p49_c2, p49_3, p49_c3, p49_4, p49_c4, p50_1, p50_c1, p50_2, p50_c2, p50_3, p50_c3, p50_4, p50_c4, rfl, hn51, hn52, hb53⟩
    replace hS := hS.call hb53
    replace hS := hS.addR hn51.s1.rd
    replace hS := hS.addR hn51.s2.rd
    replace hS := hS.addR hn51.s3.rd
    replace hS := hS.addR hn51.s4.rd
    replace hS := hS.addR hn52.s1.rd
    replace hS := hS.addR hn52.s2.rd
    replace hS := hS.addR hn52.s3.rd
    replace hS := hS.addR hn52.s4.rd
    refine ⟨_, rfl, ?_⟩
    intro a hA
    refine seq_do hA rfl rfl rfl (does_move rfl) ?_
    intro a hA
    refine seq_do (v := .agg #[.bool t.1.b1, .slice p49_1 t.1.t1.length p49_c1, .slice p49_2 t.1.q1.length p49_c2, .bool t.1.b2, .slice p49_3 t.1.t2.length p49_c3, .slice p49_4 t.1.q2.length p49_c4]) hA rfl rfl rfl (does_extract (vs := [.agg #[.bool t.1.b1, .slice p49_1 t.1.t1.length p49_c1, .slice p49_2 t.1.q1.length p49_c2, .bool t.1.b2, .slice p49_3 t.1.t2.length p49_c3, .slice p49_4 t.1.q2.length p49_c4], .agg #[.bool t.2.1.b1, .slice p50_1 t.2.1.t1.length p50_c1, .slice p50_2 t.2.1.q1.length p50_c2, .bool t.2.1.b2, .slice p50_3 t.2.1.t2.length p50_c3, .slice p50_4 t.2.1.q2.length p50_c4], .int .i64 t.2.2]) rfl rfl) ?_
    intro a hA
    refine seq_do (v := .agg #[.bool t.2.1.b1, .slice p50_1 t.2.1.t1.length p50_c1, .slice p50_2 t.2.1.q1.length p50_c2, .bool t.2.1.b2, .slice p50_3 t.2.1.t2.length p50_c3, .slice p50_4 t.2.1.q2.length p50_c4]) hA rfl rfl rfl (does_extract (vs := [.agg #[.bool t.1.b1, .slice p49_1 t.1.t1.length p49_c1, .slice p49_2 t.1.q1.length p49_c2, .bool t.1.b2, .slice p49_3 t.1.t2.length p49_c3, .slice p49_4 t.1.q2.length p49_c4], .agg #[.bool t.2.1.b1, .slice p50_1 t.2.1.t1.length p50_c1, .slice p50_2 t.2.1.q1.length p50_c2, .bool t.2.1.b2, .slice p50_3 t.2.1.t2.length p50_c3, .slice p50_4 t.2.1.q2.length p50_c4], .int .i64 t.2.2]) rfl rfl) ?_
    intro a hA
    refine seq_do (v := .int .i64 t.2.2) hA rfl rfl rfl (does_extract (vs := [.agg #[.bool t.1.b1, .slice p49_1 t.1.t1.length p49_c1, .slice p49_2 t.1.q1.length p49_c2, .bool t.1.b2, .slice p49_3 t.1.t2.length p49_c3, .slice p49_4 t.1.q2.length p49_c4], .agg #[.bool t.2.1.b1, .slice p50_1 t.2.1.t1.length p50_c1, .slice p50_2 t.2.1.q1.length p50_c2, .bool t.2.1.b2, .slice p50_3 t.2.1.t2.length p50_c3, .slice p50_4 t.2.1.q2.length p50_c4], .int .i64 t.2.2]) rfl rfl) ?_
    intro a hA
    refine seq_new (vs := [.bool false, .slice none 0 0, .slice none 0 0, .bool false, .slice none 0 0, .slice none 0 0]) (t := 26) hA hS rfl rfl rfl (fun g => .pointer (some ⟨g, 0, none⟩)) (does_alloc (z := .agg #[.bool false, .slice none 0 0, .slice none 0 0, .bool false, .slice none 0 0, .slice none 0 0]) (by kernel_rfl) rfl) rfl ?_
    intro g55 w56 hS a hA
    refine seq_new (vs := [.bool false, .slice none 0 0, .slice none 0 0, .bool false, .slice none 0 0, .slice none 0 0]) (t := 26) hA hS rfl rfl rfl (fun g => .pointer (some ⟨g, 0, none⟩)) (does_alloc (z := .agg #[.bool false, .slice none 0 0, .slice none 0 0, .bool false, .slice none 0 0, .slice none 0 0]) (by kernel_rfl) rfl) rfl ?_
    intro g57 w58 hS a hA
    refine seq_store (us := [.bool t.1.b1, .slice p49_1 t.1.t1.length p49_c1, .slice p49_2 t.1.q1.length p49_c2, .bool t.1.b2, .slice p49_3 t.1.t2.length p49_c3, .slice p49_4 t.1.q2.length p49_c4]) hA hS rfl rfl (sets_store (cs := [.bool t.1.b1, .slice p49_1 t.1.t1.length p49_c1, .slice p49_2 t.1.q1.length p49_c2, .bool t.1.b2, .slice p49_3 t.1.t2.length p49_c3, .slice p49_4 t.1.q2.length p49_c4]) rfl rfl rfl (by kernel_rfl) hS 1 rfl rfl rfl) 1 rfl rfl rfl rfl ?_
    intro w59 hS
    refine seq_store (us := [.bool t.2.1.b1, .slice p50_1 t.2.1.t1.length p50_c1, .slice p50_2 t.2.1.q1.length p50_c2, .bool t.2.1.b2, .slice p50_3 t.2.1.t2.length p50_c3, .slice p50_4 t.2.1.q2.length p50_c4]) hA hS rfl rfl (sets_store (cs := [.bool t.2.1.b1, .slice p50_1 t.2.1.t1.length p50_c1, .slice p50_2 t.2.1.q1.length p50_c2, .bool t.2.1.b2, .slice p50_3 t.2.1.t2.length p50_c3, .slice p50_4 t.2.1.q2.length p50_c4]) rfl rfl rfl (by kernel_rfl) hS 0 rfl rfl rfl) 0 rfl rfl rfl rfl ?_
    intro w60 hS
    refine seq_do hA rfl rfl rfl (does_assign rfl) ?_
    intro a hA
    refine seq_end ?_
    refine hK48 _ _ ?_
    refine wp_seq_k (fun K61 hK61 => ?_)
    refine wp_region_lit ?_
    refine seq_do (v := .agg #[.bool p.b1, .slice a1 p.t1.length ac1, .slice a2 p.q1.length ac2, .bool p.b2, .slice a3 p.t2.length ac3, .slice a4 p.q2.length ac4]) hA rfl rfl rfl (does_loadS hS BiU_isS_26 rfl 6 rfl (cs := [.bool p.b1, .slice a1 p.t1.length ac1, .slice a2 p.q1.length ac2, .bool p.b2, .slice a3 p.t2.length ac3, .slice a4 p.q2.length ac4]) rfl rfl) ?_
    intro a hA
    refine seq_do hA rfl rfl rfl (does_move rfl) ?_
    intro a hA
    refine seq_call hA rfl rfl rfl (enters_func  rfl rfl (fun w => by kernel_rfl)) (fieldQ_as (show Nm _ p a1 ac1 a2 ac2 a3 ac3 a4 ac4 from ⟨⟨(hS.rd 31 rfl), ha.s1.nil, ha.s1.cap⟩, ⟨(hS.rd 30 rfl), ha.s2.nil, ha.s2.cap⟩, ⟨(hS.rd 29 rfl), ha.s3.nil, ha.s3.cap⟩, ⟨(hS.rd 28 rfl), ha.s4.nil, ha.s4.cap⟩⟩) hl e5) ?_
    rintro _ w65 ⟨p62_1, p62_c1, p62_2, p62_c2, p62_3, p62_c3, p62_4, p62_c4, rfl, hn63, hb64⟩
    replace hS := hS.call hb64
    replace hS := hS.addR hn63.s1.rd
    replace hS := hS.addR hn63.s2.rd
    replace hS := hS.addR hn63.s3.rd
    replace hS := hS.addR hn63.s4.rd
    refine ⟨_, rfl, ?_⟩
    intro a hA
    refine seq_do hA rfl rfl rfl (does_move rfl) ?_
    intro a hA
    refine seq_do (v := .agg #[.bool z5.1.b1, .slice p62_1 z5.1.t1.length p62_c1, .slice p62_2 z5.1.q1.length p62_c2, .bool z5.1.b2, .slice p62_3 z5.1.t2.length p62_c3, .slice p62_4 z5.1.q2.length p62_c4]) hA rfl rfl rfl (does_extract (vs := [.agg #[.bool z5.1.b1, .slice p62_1 z5.1.t1.length p62_c1, .slice p62_2 z5.1.q1.length p62_c2, .bool z5.1.b2, .slice p62_3 z5.1.t2.length p62_c3, .slice p62_4 z5.1.q2.length p62_c4], .int .i64 z5.2]) rfl rfl) ?_
    intro a hA
    refine seq_do (v := .int .i64 z5.2) hA rfl rfl rfl (does_extract (vs := [.agg #[.bool z5.1.b1, .slice p62_1 z5.1.t1.length p62_c1, .slice p62_2 z5.1.q1.length p62_c2, .bool z5.1.b2, .slice p62_3 z5.1.t2.length p62_c3, .slice p62_4 z5.1.q2.length p62_c4], .int .i64 z5.2]) rfl rfl) ?_
    intro a hA
    refine seq_new (vs := [.bool false, .slice none 0 0, .slice none 0 0, .bool false, .slice none 0 0, .slice none 0 0]) (t := 26) hA hS rfl rfl rfl (fun g => .pointer (some ⟨g, 0, none⟩)) (does_alloc (z := .agg #[.bool false, .slice none 0 0, .slice none 0 0, .bool false, .slice none 0 0, .slice none 0 0]) (by kernel_rfl) rfl) rfl ?_
    intro g66 w67 hS a hA
    refine seq_store (us := [.bool z5.1.b1, .slice p62_1 z5.1.t1.length p62_c1, .slice p62_2 z5.1.q1.length p62_c2, .bool z5.1.b2, .slice p62_3 z5.1.t2.length p62_c3, .slice p62_4 z5.1.q2.length p62_c4]) hA hS rfl rfl (sets_store (cs := [.bool z5.1.b1, .slice p62_1 z5.1.t1.length p62_c1, .slice p62_2 z5.1.q1.length p62_c2, .bool z5.1.b2, .slice p62_3 z5.1.t2.length p62_c3, .slice p62_4 z5.1.q2.length p62_c4]) rfl rfl rfl (by kernel_rfl) hS 0 rfl rfl rfl) 0 rfl rfl rfl rfl ?_
    intro w68 hS
    refine seq_do hA rfl rfl rfl (does_assign rfl) ?_
    intro a hA
    refine seq_end ?_
    refine hK61 _ _ ?_
    refine wp_seq_k (fun K69 hK69 => ?_)
    refine wp_region_lit ?_
    refine seq_do hA rfl rfl rfl (does_move rfl) ?_
    intro a hA
    refine seq_do hA rfl rfl rfl (does_move rfl) ?_
    intro a hA
    refine seq_do (v := .bool true) hA rfl rfl rfl (does_bin rfl rfl (fun w => (bin_eql w).trans (by rw [show ((z2.2 == z3.2)) = true from (beq_iff_eq.2 (hH hb9).1)]))) ?_
    intro a hA
    refine seq_do hA rfl rfl rfl (does_move rfl) ?_
    intro a hA
    refine seq_do hA rfl rfl rfl (does_move rfl) ?_
    intro a hA
    rcases Bool.eq_false_or_eq_true ((z2.2 != 0)) with hb70 | hb70
    · have hb70' := bne_iff_ne.1 hb70
      refine seq_do (v := .bool true) hA rfl rfl rfl (does_bin rfl rfl (fun w => (bin_neq w).trans (by rw [hb70]))) ?_
      intro a hA
      refine seq_do hA rfl rfl rfl (does_move rfl) ?_
      intro a hA
      refine seq_skip hA rfl rfl rfl ?_
      intro a hA
      refine seq_skip hA rfl rfl rfl ?_
      intro a hA
      refine seq_skip hA rfl rfl rfl ?_
      intro a hA
      refine seq_do (v := .bool true) hA rfl rfl rfl (does_pick rfl rfl rfl rfl) ?_
      intro a hA
      refine seq_do (v := .bool true) hA rfl rfl rfl (does_pick rfl rfl rfl rfl) ?_
      intro a hA
      refine seq_do hA rfl rfl rfl (does_move rfl) ?_
      intro a hA
      refine seq_do hA rfl rfl rfl (does_move rfl) ?_
      intro a hA
      refine seq_do (v := .bool true) hA rfl rfl rfl (does_bin rfl rfl (fun w => (bin_eql w).trans (by rw [show ((z4.2 == 0)) = true from (beq_iff_eq.2 (hH hb9).2.2.1)]))) ?_
      intro a hA
      refine seq_do (v := .bool true) hA rfl rfl rfl (does_pick rfl rfl rfl rfl) ?_
      intro a hA
      refine seq_do hA rfl rfl rfl (does_move rfl) ?_
      intro a hA
      refine seq_do hA rfl rfl rfl (does_move rfl) ?_
      intro a hA
      refine seq_do (v := .bool true) hA rfl rfl rfl (does_bin rfl rfl (fun w => (bin_eql w).trans (by rw [show ((t.2.2 == 0)) = true from (beq_iff_eq.2 (hH hb9).2.2.2.1)]))) ?_
      intro a hA
      refine seq_do (v := .bool true) hA rfl rfl rfl (does_pick rfl rfl rfl rfl) ?_
      intro a hA
      refine seq_do hA rfl rfl rfl (does_move rfl) ?_
      intro a hA
      refine seq_do (v := .agg #[.bool z4.1.b1, .slice p41_1 z4.1.t1.length p41_c1, .slice p41_2 z4.1.q1.length p41_c2, .bool z4.1.b2, .slice p41_3 z4.1.t2.length p41_c3, .slice p41_4 z4.1.q2.length p41_c4]) hA rfl rfl rfl (does_loadS hS BiU_isS_26 rfl 3 rfl (cs := [.bool z4.1.b1, .slice p41_1 z4.1.t1.length p41_c1, .slice p41_2 z4.1.q1.length p41_c2, .bool z4.1.b2, .slice p41_3 z4.1.t2.length p41_c3, .slice p41_4 z4.1.q2.length p41_c4]) rfl rfl) ?_
      intro a hA
      refine seq_do (v := .agg #[.bool t.1.b1, .slice p49_1 t.1.t1.length p49_c1, .slice p49_2 t.1.q1.length p49_c2, .bool t.1.b2, .slice p49_3 t.1.t2.length p49_c3, .slice p49_4 t.1.q2.length p49_c4]) hA rfl rfl rfl (does_loadS hS BiU_isS_26 rfl 2 rfl (cs := [.bool t.1.b1, .slice p49_1 t.1.t1.length p49_c1, .slice p49_2 t.1.q1.length p49_c2, .bool t.1.b2, .slice p49_3 t.1.t2.length p49_c3, .slice p49_4 t.1.q2.length p49_c4]) rfl rfl) ?_
      intro a hA
      refine seq_call hA rfl rfl rfl (enters_func  rfl rfl (fun w => by kernel_rfl)) (sameQ_any (show Nm _ z4.1 p41_1 p41_c1 p41_2 p41_c2 p41_3 p41_c3 p41_4 p41_c4 from ⟨⟨(hS.rd 15 rfl), hn42.s1.nil, hn42.s1.cap⟩, ⟨(hS.rd 14 rfl), hn42.s2.nil, hn42.s2.cap⟩, ⟨(hS.rd 13 rfl), hn42.s3.nil, hn42.s3.cap⟩, ⟨(hS.rd 12 rfl), hn42.s4.nil, hn42.s4.cap⟩⟩) l4 (show Nm _ t.1 p49_1 p49_c1 p49_2 p49_c2 p49_3 p49_c3 p49_4 p49_c4 from ⟨⟨(hS.rd 11 rfl), hn51.s1.nil, hn51.s1.cap⟩, ⟨(hS.rd 10 rfl), hn51.s2.nil, hn51.s2.cap⟩, ⟨(hS.rd 9 rfl), hn51.s3.nil, hn51.s3.cap⟩, ⟨(hS.rd 8 rfl), hn51.s4.nil, hn51.s4.cap⟩⟩) lt1 ((hH hb9).2.2.2.2.1)) ?_
      rintro _ w72 ⟨rfl, hb71⟩
      replace hS := hS.call hb71
      refine ⟨_, rfl, ?_⟩
      intro a hA
      refine seq_do (v := .bool true) hA rfl rfl rfl (does_pick rfl rfl rfl rfl) ?_
      intro a hA
      refine seq_do hA rfl rfl rfl (does_move rfl) ?_
      intro a hA
      refine seq_do hA rfl rfl rfl (does_move rfl) ?_
      intro a hA
      refine seq_do (v := .bool true) hA rfl rfl rfl (does_bin rfl rfl (fun w => (bin_eql w).trans (by rw [show ((z5.2 == 0)) = true from (beq_iff_eq.2 (hH hb9).2.2.2.2.2.1)]))) ?_
      intro a hA
      refine seq_do (v := .bool true) hA rfl rfl rfl (does_pick rfl rfl rfl rfl) ?_
      intro a hA
      refine seq_do hA rfl rfl rfl (does_move rfl) ?_
      intro a hA
      refine seq_do (v := .agg #[.bool z5.1.b1, .slice p62_1 z5.1.t1.length p62_c1, .slice p62_2 z5.1.q1.length p62_c2, .bool z5.1.b2, .slice p62_3 z5.1.t2.length p62_c3, .slice p62_4 z5.1.q2.length p62_c4]) hA rfl rfl rfl (does_loadS hS BiU_isS_26 rfl 0 rfl (cs := [.bool z5.1.b1, .slice p62_1 z5.1.t1.length p62_c1, .slice p62_2 z5.1.q1.length p62_c2, .bool z5.1.b2, .slice p62_3 z5.1.t2.length p62_c3, .slice p62_4 z5.1.q2.length p62_c4]) rfl rfl) ?_
      intro a hA
      refine seq_do (v := .agg #[.bool t.2.1.b1, .slice p50_1 t.2.1.t1.length p50_c1, .slice p50_2 t.2.1.q1.length p50_c2, .bool t.2.1.b2, .slice p50_3 t.2.1.t2.length p50_c3, .slice p50_4 t.2.1.q2.length p50_c4]) hA rfl rfl rfl (does_loadS hS BiU_isS_26 rfl 1 rfl (cs := [.bool t.2.1.b1, .slice p50_1 t.2.1.t1.length p50_c1, .slice p50_2 t.2.1.q1.length p50_c2, .bool t.2.1.b2, .slice p50_3 t.2.1.t2.length p50_c3, .slice p50_4 t.2.1.q2.length p50_c4]) rfl rfl) ?_
      intro a hA
      refine seq_call hA rfl rfl rfl (enters_func  rfl rfl (fun w => by kernel_rfl)) (sameQ_any (show Nm _ z5.1 p62_1 p62_c1 p62_2 p62_c2 p62_3 p62_c3 p62_4 p62_c4 from ⟨⟨(hS.rd 3 rfl), hn63.s1.nil, hn63.s1.cap⟩, ⟨(hS.rd 2 rfl), hn63.s2.nil, hn63.s2.cap⟩, ⟨(hS.rd 1 rfl), hn63.s3.nil, hn63.s3.cap⟩, ⟨(hS.rd 0 rfl), hn63.s4.nil, hn63.s4.cap⟩⟩) l5 (show Nm _ t.2.1 p50_1 p50_c1 p50_2 p50_c2 p50_3 p50_c3 p50_4 p50_c4 from ⟨⟨(hS.rd 7 rfl), hn52.s1.nil, hn52.s1.cap⟩, ⟨(hS.rd 6 rfl), hn52.s2.nil, hn52.s2.cap⟩, ⟨(hS.rd 5 rfl), hn52.s3.nil, hn52.s3.cap⟩, ⟨(hS.rd 4 rfl), hn52.s4.nil, hn52.s4.cap⟩⟩) lt2 ((hH hb9).2.2.2.2.2.2)) ?_
      rintro _ w74 ⟨rfl, hb73⟩
      replace hS := hS.call hb73
      refine ⟨_, rfl, ?_⟩
      intro a hA
      refine seq_do (v := .bool true) hA rfl rfl rfl (does_pick rfl rfl rfl rfl) ?_
      intro a hA
      refine seq_do hA rfl rfl rfl (does_assign rfl) ?_
      intro a hA
      refine seq_end ?_
      refine hK69 _ _ ?_
      refine wp_ret ?_
      refine hret _ _ ?_
      refine ends (v := .bool true) hA rfl (.cons (res_tmp rfl) .nil) rfl ?_
      exact ⟨rfl, hS.bel⟩
    · have hb70' := bne_eq_false_iff_eq.1 hb70
      refine seq_do (v := .bool false) hA rfl rfl rfl (does_bin rfl rfl (fun w => (bin_neq w).trans (by rw [hb70]))) ?_
      intro a hA
      refine seq_do hA rfl rfl rfl (does_move rfl) ?_
      intro a hA
      refine seq_do (v := .agg #[.bool z2.1.b1, .slice p25_1 z2.1.t1.length p25_c1, .slice p25_2 z2.1.q1.length p25_c2, .bool z2.1.b2, .slice p25_3 z2.1.t2.length p25_c3, .slice p25_4 z2.1.q2.length p25_c4]) hA rfl rfl rfl (does_loadS hS BiU_isS_26 rfl 5 rfl (cs := [.bool z2.1.b1, .slice p25_1 z2.1.t1.length p25_c1, .slice p25_2 z2.1.q1.length p25_c2, .bool z2.1.b2, .slice p25_3 z2.1.t2.length p25_c3, .slice p25_4 z2.1.q2.length p25_c4]) rfl rfl) ?_
      intro a hA
      refine seq_do (v := .agg #[.bool z3.1.b1, .slice p33_1 z3.1.t1.length p33_c1, .slice p33_2 z3.1.q1.length p33_c2, .bool z3.1.b2, .slice p33_3 z3.1.t2.length p33_c3, .slice p33_4 z3.1.q2.length p33_c4]) hA rfl rfl rfl (does_loadS hS BiU_isS_26 rfl 4 rfl (cs := [.bool z3.1.b1, .slice p33_1 z3.1.t1.length p33_c1, .slice p33_2 z3.1.q1.length p33_c2, .bool z3.1.b2, .slice p33_3 z3.1.t2.length p33_c3, .slice p33_4 z3.1.q2.length p33_c4]) rfl rfl) ?_
      intro a hA
      refine seq_call hA rfl rfl rfl (enters_func  rfl rfl (fun w => by kernel_rfl)) (sameQ_any (show Nm _ z2.1 p25_1 p25_c1 p25_2 p25_c2 p25_3 p25_c3 p25_4 p25_c4 from ⟨⟨(hS.rd 23 rfl), hn26.s1.nil, hn26.s1.cap⟩, ⟨(hS.rd 22 rfl), hn26.s2.nil, hn26.s2.cap⟩, ⟨(hS.rd 21 rfl), hn26.s3.nil, hn26.s3.cap⟩, ⟨(hS.rd 20 rfl), hn26.s4.nil, hn26.s4.cap⟩⟩) l2 (show Nm _ z3.1 p33_1 p33_c1 p33_2 p33_c2 p33_3 p33_c3 p33_4 p33_c4 from ⟨⟨(hS.rd 19 rfl), hn34.s1.nil, hn34.s1.cap⟩, ⟨(hS.rd 18 rfl), hn34.s2.nil, hn34.s2.cap⟩, ⟨(hS.rd 17 rfl), hn34.s3.nil, hn34.s3.cap⟩, ⟨(hS.rd 16 rfl), hn34.s4.nil, hn34.s4.cap⟩⟩) l3 (((hH hb9).2.1 (bne0 hb70)))) ?_
      rintro _ w76 ⟨rfl, hb75⟩
      replace hS := hS.call hb75
      refine ⟨_, rfl, ?_⟩
      intro a hA
      refine seq_do (v := .bool true) hA rfl rfl rfl (does_pick rfl rfl rfl rfl) ?_
      intro a hA
      refine seq_do (v := .bool true) hA rfl rfl rfl (does_pick rfl rfl rfl rfl) ?_
      intro a hA
      refine seq_do hA rfl rfl rfl (does_move rfl) ?_
      intro a hA
      refine seq_do hA rfl rfl rfl (does_move rfl) ?_
      intro a hA
      refine seq_do (v := .bool true) hA rfl rfl rfl (does_bin rfl rfl (fun w => (bin_eql w).trans (by rw [show ((z4.2 == 0)) = true from (beq_iff_eq.2 (hH hb9).2.2.1)]))) ?_
      intro a hA
      refine seq_do (v := .bool true) hA rfl rfl rfl (does_pick rfl rfl rfl rfl) ?_
      intro a hA
      refine seq_do hA rfl rfl rfl (does_move rfl) ?_
      intro a hA
      refine seq_do hA rfl rfl rfl (does_move rfl) ?_
      intro a hA
      refine seq_do (v := .bool true) hA rfl rfl rfl (does_bin rfl rfl (fun w => (bin_eql w).trans (by rw [show ((t.2.2 == 0)) = true from (beq_iff_eq.2 (hH hb9).2.2.2.1)]))) ?_
      intro a hA
      refine seq_do (v := .bool true) hA rfl rfl rfl (does_pick rfl rfl rfl rfl) ?_
      intro a hA
      refine seq_do hA rfl rfl rfl (does_move rfl) ?_
      intro a hA
      refine seq_do (v := .agg #[.bool z4.1.b1, .slice p41_1 z4.1.t1.length p41_c1, .slice p41_2 z4.1.q1.length p41_c2, .bool z4.1.b2, .slice p41_3 z4.1.t2.length p41_c3, .slice p41_4 z4.1.q2.length p41_c4]) hA rfl rfl rfl (does_loadS hS BiU_isS_26 rfl 3 rfl (cs := [.bool z4.1.b1, .slice p41_1 z4.1.t1.length p41_c1, .slice p41_2 z4.1.q1.length p41_c2, .bool z4.1.b2, .slice p41_3 z4.1.t2.length p41_c3, .slice p41_4 z4.1.q2.length p41_c4]) rfl rfl) ?_
      intro a hA
      refine seq_do (v := .agg #[.bool t.1.b1, .slice p49_1 t.1.t1.length p49_c1, .slice p49_2 t.1.q1.length p49_c2, .bool t.1.b2, .slice p49_3 t.1.t2.length p49_c3, .slice p49_4 t.1.q2.length p49_c4]) hA rfl rfl rfl (does_loadS hS BiU_isS_26 rfl 2 rfl (cs := [.bool t.1.b1, .slice p49_1 t.1.t1.length p49_c1, .slice p49_2 t.1.q1.length p49_c2, .bool t.1.b2, .slice p49_3 t.1.t2.length p49_c3, .slice p49_4 t.1.q2.length p49_c4]) rfl rfl) ?_
      intro a hA
      refine seq_call hA rfl rfl rfl (enters_func  rfl rfl (fun w => by kernel_rfl)) (sameQ_any (show Nm _ z4.1 p41_1 p41_c1 p41_2 p41_c2 p41_3 p41_c3 p41_4 p41_c4 from ⟨⟨(hS.rd 15 rfl), hn42.s1.nil, hn42.s1.cap⟩, ⟨(hS.rd 14 rfl), hn42.s2.nil, hn42.s2.cap⟩, ⟨(hS.rd 13 rfl), hn42.s3.nil, hn42.s3.cap⟩, ⟨(hS.rd 12 rfl), hn42.s4.nil, hn42.s4.cap⟩⟩) l4 (show Nm _ t.1 p49_1 p49_c1 p49_2 p49_c2 p49_3 p49_c3 p49_4 p49_c4 from ⟨⟨(hS.rd 11 rfl), hn51.s1.nil, hn51.s1.cap⟩, ⟨(hS.rd 10 rfl), hn51.s2.nil, hn51.s2.cap⟩, ⟨(hS.rd 9 rfl), hn51.s3.nil, hn51.s3.cap⟩, ⟨(hS.rd 8 rfl), hn51.s4.nil, hn51.s4.cap⟩⟩) lt1 ((hH hb9).2.2.2.2.1)) ?_
      rintro _ w78 ⟨rfl, hb77⟩
      replace hS := hS.call hb77
      refine ⟨_, rfl, ?_⟩
      intro a hA
      refine seq_do (v := .bool true) hA rfl rfl rfl (does_pick rfl rfl rfl rfl) ?_
      intro a hA
      refine seq_do hA rfl rfl rfl (does_move rfl) ?_
      intro a hA
      refine seq_do hA rfl rfl rfl (does_move rfl) ?_
      intro a hA
      refine seq_do (v := .bool true) hA rfl rfl rfl (does_bin rfl rfl (fun w => (bin_eql w).trans (by rw [show ((z5.2 == 0)) = true from (beq_iff_eq.2 (hH hb9).2.2.2.2.2.1)]))) ?_
      intro a hA
      refine seq_do (v := .bool true) hA rfl rfl rfl (does_pick rfl rfl rfl rfl) ?_
      intro a hA
      refine seq_do hA rfl rfl rfl (does_move rfl) ?_
      intro a hA
      refine seq_do (v := .agg #[.bool z5.1.b1, .slice p62_1 z5.1.t1.length p62_c1, .slice p62_2 z5.1.q1.length p62_c2, .bool z5.1.b2, .slice p62_3 z5.1.t2.length p62_c3, .slice p62_4 z5.1.q2.length p62_c4]) hA rfl rfl rfl (does_loadS hS BiU_isS_26 rfl 0 rfl (cs := [.bool z5.1.b1, .slice p62_1 z5.1.t1.length p62_c1, .slice p62_2 z5.1.q1.length p62_c2, .bool z5.1.b2, .slice p62_3 z5.1.t2.length p62_c3, .slice p62_4 z5.1.q2.length p62_c4]) rfl rfl) ?_
      intro a hA
      refine seq_do (v := .agg #[.bool t.2.1.b1, .slice p50_1 t.2.1.t1.length p50_c1, .slice p50_2 t.2.1.q1.length p50_c2, .bool t.2.1.b2, .slice p50_3 t.2.1.t2.length p50_c3, .slice p50_4 t.2.1.q2.length p50_c4]) hA rfl rfl rfl (does_loadS hS BiU_isS_26 rfl 1 rfl (cs := [.bool t.2.1.b1, .slice p50_1 t.2.1.t1.length p50_c1, .slice p50_2 t.2.1.q1.length p50_c2, .bool t.2.1.b2, .slice p50_3 t.2.1.t2.length p50_c3, .slice p50_4 t.2.1.q2.length p50_c4]) rfl rfl) ?_
      intro a hA
      refine seq_call hA rfl rfl rfl (enters_func  rfl rfl (fun w => by kernel_rfl)) (sameQ_any (show Nm _ z5.1 p62_1 p62_c1 p62_2 p62_c2 p62_3 p62_c3 p62_4 p62_c4 from ⟨⟨(hS.rd 3 rfl), hn63.s1.nil, hn63.s1.cap⟩, ⟨(hS.rd 2 rfl), hn63.s2.nil, hn63.s2.cap⟩, ⟨(hS.rd 1 rfl), hn63.s3.nil, hn63.s3.cap⟩, ⟨(hS.rd 0 rfl), hn63.s4.nil, hn63.s4.cap⟩⟩) l5 (show Nm _ t.2.1 p50_1 p50_c1 p50_2 p50_c2 p50_3 p50_c3 p50_4 p50_c4 from ⟨⟨(hS.rd 7 rfl), hn52.s1.nil, hn52.s1.cap⟩, ⟨(hS.rd 6 rfl), hn52.s2.nil, hn52.s2.cap⟩, ⟨(hS.rd 5 rfl), hn52.s3.nil, hn52.s3.cap⟩, ⟨(hS.rd 4 rfl), hn52.s4.nil, hn52.s4.cap⟩⟩) lt2 ((hH hb9).2.2.2.2.2.2)) ?_
      rintro _ w80 ⟨rfl, hb79⟩
      replace hS := hS.call hb79
      refine ⟨_, rfl, ?_⟩
      intro a hA
      refine seq_do (v := .bool true) hA rfl rfl rfl (does_pick rfl rfl rfl rfl) ?_
      intro a hA
      refine seq_do hA rfl rfl rfl (does_assign rfl) ?_
      intro a hA
      refine seq_end ?_
      refine hK69 _ _ ?_
      refine wp_ret ?_
      refine hret _ _ ?_
      refine ends (v := .bool true) hA rfl (.cons (res_tmp rfl) .nil) rfl ?_
      exact ⟨rfl, hS.bel⟩
  · refine seq_call hA rfl rfl rfl (enters_func  rfl rfl (fun w => by kernel_rfl)) (wholeQ_any (show Nm _ p a1 ac1 a2 ac2 a3 ac3 a4 ac4 from ⟨⟨(hS.rd 3 rfl), ha.s1.nil, ha.s1.cap⟩, ⟨(hS.rd 2 rfl), ha.s2.nil, ha.s2.cap⟩, ⟨(hS.rd 1 rfl), ha.s3.nil, ha.s3.cap⟩, ⟨(hS.rd 0 rfl), ha.s4.nil, ha.s4.cap⟩⟩) hl hb9) ?_
    rintro _ w82 ⟨rfl, hb81⟩
    replace hS := hS.call hb81
    refine ⟨_, rfl, ?_⟩
    intro a hA
    refine seq_do (v := .bool true) hA rfl rfl rfl (does_un rfl un_not) ?_
    intro a hA
    refine seq_do (v := .bool true) hA rfl rfl rfl (does_pick rfl rfl rfl rfl) ?_
    intro a hA
    refine seq_end ?_
    refine hK6 _ _ ?_
    refine wp_cond_true (hA.ev rfl) ?_
    refine wp_seq_k (fun K83 hK83 => ?_)
    refine wp_region_lit ?_
    refine seq_call hA rfl rfl rfl (enters_func  rfl rfl (fun w => by kernel_rfl)) (awake4_any) ?_
    rintro _ w85 ⟨rfl, hb84⟩
    replace hS := hS.call hb84
    refine ⟨_, rfl, ?_⟩
    intro a hA
    refine seq_do hA rfl rfl rfl (does_assign rfl) ?_
    intro a hA
    refine seq_end ?_
    refine hK83 _ _ ?_
    refine wp_ret ?_
    refine hret _ _ ?_
    refine ends (v := .bool true) hA rfl (.cons (res_tmp rfl) .nil) rfl ?_
    exact ⟨rfl, hS.bel⟩
theorem bitsMoves_any {w : World} {p : Q6} {a1 a2 a3 a4 : Option Addr} {ac1 ac2 ac3 ac4 : Nat} (ha : Nm w p a1 ac1 a2 ac2 a3 ac3 a4 ac4) (hl : LenQ p) {n : Int} (n0 : 0 ≤ n) (n1 : n ≤ 255) : Calls Try.prog 6 #[numV p a1 ac1 a2 ac2 a3 ac3 a4 ac4, .int .u8 n] w fun e w' => e = .returned (.bool true) ∧ Below w.heap.size w w' := by
  obtain ⟨N, rfl⟩ := Int.eq_ofNat_of_zero_le n0
  have b1 := Nat.mod_lt N (show 0 < 100 by decide)
  refine movesW_any ha hl (by omega) rfl b1 (exptQ_two (by omega)) (lenQ_whole (pow_len (by omega))) rfl (lenQ_shiftQ _ _) rfl (lenQ_mul _ _) rfl (lenQ_shiftQ _ _) rfl (lenQ_dm _ _).1 (lenQ_dm _ _).2 rfl (lenQ_field _ _ _) ?_
  intro hw
  obtain ⟨b, x, rfl, hx, hb⟩ := wholeOf ha hw
  obtain ⟨f1, f2⟩ := moves_facts hx hb b1
  exact ⟨congrArg Prod.snd f1, f2⟩
end Go.Proofs.Ytmibkfihcihphaa
namespace Go.Proofs.Ytmibkfihcihphaa
open Go.ChangeShapes Go.WideShapes Go.ChangeAt Go.RowKit Go.Joins Go.Deep
set_option linter.unusedVariables false
set_option linter.unusedSimpArgs false
set_option maxRecDepth 100000

section
variable {H : Type} {enc : TypeId × Value → H} {W : World}
theorem trod_bool {fuel : Nat} {v : Value} {x : DataW H × List MemPlace} (h : DataW.trod enc Try.prog W 0 (fun _ => true) true fuel 4 [v] = some x) : ∃ b, v = .bool b := by
  obtain ⟨b, h, _⟩ := DataW.trod_bool Try.underlying4 h
  exact ⟨b, by simpa using h⟩
theorem trod_words {fuel : Nat} {v : Value} {x : DataW H × List MemPlace} (h : DataW.trod enc Try.prog W 0 (fun _ => true) true fuel 22 [v] = some x) : ∃ ao c l, v = .slice ao l.length c ∧ Arg W ao c l := by
  rcases open_ints Try.underlying22 Try.underlying67 (by kernel_rfl) h with ⟨hcs, _⟩ | ⟨x, l, c, zs, hcs, _, hl, hm, hz, hx, hcell, hwz⟩
  · cases hcs
    exact ⟨none, 0, [], rfl, arg_nil W⟩
  · cases hcs
    obtain ⟨us, e, ha⟩ := arg_row hl hm (by simpa using hz) hcell hwz
    subst e
    exact ⟨_, _, us, rfl, ha⟩
theorem trod_rat {fuel : Nat} {v0 v1 v2 : Value} {x : DataW H × List MemPlace} (h : DataW.trod enc Try.prog W 0 (fun _ => true) true fuel 24 [v0, v1, v2] = some x) : ∃ b o1 c1 l1 o2 c2 l2, v0 = .bool b ∧ v1 = .slice o1 l1.length c1 ∧ v2 = .slice o2 l2.length c2 ∧ Arg W o1 c1 l1 ∧ Arg W o2 c2 l2 := by
  obtain ⟨y0, y1, y2, n, _, _, h0, h1, h2⟩ := trod_struct3 Try.underlying24 h
  have e0 : Try.prog.cellsOf 4 = 1 := by kernel_rfl
  have e1 : Try.prog.cellsOf 22 = 1 := by kernel_rfl
  simp only [e0, e1, List.drop_zero, List.take_succ_cons, List.take_zero, List.drop_succ_cons] at h0 h1 h2
  obtain ⟨b, rfl⟩ := trod_bool h0
  obtain ⟨o1, c1, l1, rfl, a1⟩ := trod_words h1
  obtain ⟨o2, c2, l2, rfl, a2⟩ := trod_words h2
  exact ⟨b, o1, c1, l1, o2, c2, l2, rfl, rfl, rfl, a1, a2⟩
theorem open_num {base : Nat} {v : Value} {d : DataW H} {p : List MemPlace} (hv : Value.okWide Try.prog W .any base 26 v) (h : DataW.Trod enc Try.prog W 0 (fun _ => true) true 26 v d p) :
    ∃ q o1 c1 o2 c2 o3 c3 o4 c4, v = numV q o1 c1 o2 c2 o3 c3 o4 c4 ∧ Nm W q o1 c1 o2 c2 o3 c3 o4 c4 ∧ LenQ q := by
  obtain ⟨cs, rfl, hsz⟩ := okWide_struct Try.underlying26 hv
  rw [show Try.prog.cellsOf 26 = 6 from by kernel_rfl] at hsz
  obtain ⟨cs⟩ := cs
  match cs, hsz with
  | [v0, v1, v2, v3, v4, v5], _ =>
    obtain ⟨fuel, hf⟩ := h
    obtain ⟨y0, y1, n, _, _, h0, h1⟩ := trod_struct2 Try.underlying26 hf
    have e : Try.prog.cellsOf 24 = 3 := by kernel_rfl
    simp only [Value.cells, e, List.drop_zero, List.take_succ_cons, List.take_zero, List.drop_succ_cons] at h0 h1
    obtain ⟨b1, o1, c1, l1, o2, c2, l2, rfl, rfl, rfl, a1, a2⟩ := trod_rat h0
    obtain ⟨b2, o3, c3, l3, o4, c4, l4, rfl, rfl, rfl, a3, a4⟩ := trod_rat h1
    exact ⟨⟨b1, l1, l2, b2, l3, l4⟩, o1, c1, o2, c2, o3, c3, o4, c4, rfl, ⟨⟨a1.rd, a1.nil, a1.caps⟩, ⟨a2.rd, a2.nil, a2.caps⟩, ⟨a3.rd, a3.nil, a3.caps⟩, ⟨a4.rd, a4.nil, a4.caps⟩⟩, ⟨a1.len, a2.len, a3.len, a4.len⟩⟩
end
end Go.Proofs.Ytmibkfihcihphaa
