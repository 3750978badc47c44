/- Walks of the powers. Walks of Expt. -/
import Derived.Test.YthlkbnhbmfmchaaGreatPexactp11b
namespace Go.Proofs.YthlkbnhbmfmchaaGreat
open Go.RowKit
set_option linter.unusedVariables false
set_option linter.unusedSimpArgs false
set_option maxRecDepth 100000
theorem ExU_is1_22 : Is1 Tryz.prog 22 := ⟨⟨_, Tryz.underlying22, rfl⟩, by kernel_rfl⟩
theorem ExU_fld_53_1 : FieldAt Tryz.prog 53 1 1 := ⟨_, _, Tryz.underlying53, rfl, rfl, by kernel_rfl⟩
theorem ExU_fld_55_0 : FieldAt Tryz.prog 55 0 0 := ⟨_, _, Tryz.underlying55, rfl, rfl, by kernel_rfl⟩
theorem ExU_fld_55_1 : FieldAt Tryz.prog 55 1 2 := ⟨_, _, Tryz.underlying55, rfl, rfl, by kernel_rfl⟩
theorem ExU_fld_55_2 : FieldAt Tryz.prog 55 2 4 := ⟨_, _, Tryz.underlying55, rfl, rfl, by kernel_rfl⟩
theorem ExU_isS_26 : IsS Tryz.prog 26 6 := ⟨⟨_, Tryz.underlying26⟩, by kernel_rfl⟩
theorem ExU_isS_55 : IsS Tryz.prog 55 5 := ⟨⟨_, Tryz.underlying55⟩, by kernel_rfl⟩
set_option maxHeartbeats 1000000 in
theorem zpower_any {w : World} {x y : Int} {d n : Nat} {a1 a2 a3 : Option Addr} {ac1 ac2 ac3 : Nat} (ha1 : Sc w a1 ac1 (words x.natAbs)) (ha2 : Sc w a2 ac2 (words y.natAbs)) (ha3 : Sc w a3 ac3 (words d)) (l1 : (words x.natAbs).length ≤ 1024) (l2 : (words y.natAbs).length ≤ 1024) (l3 : (words d).length ≤ 1024) (hd : d ≠ 0) {u v : Rat} (hu : mkRat x d = u) (hv : mkRat y d = v) (fu : fitR u) (fv : fitR v) (hn1 : 1 ≤ n) (hn2 : n ≤ 1024) : Calls Tryz.prog 71 #[.agg #[.bool (rb x), .slice a1 (words x.natAbs).length ac1, .bool (rb y), .slice a2 (words y.natAbs).length ac2, .slice a3 (words d).length ac3], .int .i64 ((n : Nat) : Int)] w (AnsPw w u v n) := by
 have hS : St w w [] [(a3, words d), (a2, words y.natAbs), (a1, words x.natAbs)] [] := (((St.start w).addR ha1.rd).addR ha2.rd).addR ha3.rd
 refine walk_of (l := [(0, .agg #[.bool ((rb x)), .slice a1 ((words x.natAbs).length) ac1, .bool ((rb y)), .slice a2 ((words y.natAbs).length) ac2, .slice a3 ((words d).length) ac3]), (1, .int .i64 (((n : Nat) : Int)))]) Tryz.func71 rfl Tryz.ntmps71 rfl rfl ?_
 intro Q hret hnorm hP a hA
 refine wp_seq_k (fun K1 hK1 => ?_)
 refine wp_region_lit ?_
 refine seq_new hA hS rfl rfl rfl (fun g => .pointer (some ⟨g, 0, none⟩)) (d_box rfl rfl) rfl ?_
 intro g2 w3 hS a hA
 refine seq_new (vs := [.bool false, .slice none 0 0, .bool false, .slice none 0 0, .slice none 0 0]) (t := 55) hA hS rfl rfl rfl (fun g => .pointer (some ⟨g, 0, none⟩)) (d_alloc (z := .agg #[.bool false, .slice none 0 0, .bool false, .slice none 0 0, .slice none 0 0]) (by kernel_rfl) rfl) rfl ?_
 intro g4 w5 hS a hA
 refine seq_do hA rfl rfl rfl (d_assign rfl) ?_
 intro a hA
 refine seq_end ?_
 refine hK1 _ _ ?_
 refine wp_seq_k (fun K6 hK6 => ?_)
 refine wp_region_lit ?_
 refine seq_do hA rfl rfl rfl (d_loadS hS ExU_isS_55 rfl 1 rfl (cs := [.bool ((rb x)), .slice a1 ((words x.natAbs).length) ac1, .bool ((rb y)), .slice a2 ((words y.natAbs).length) ac2, .slice a3 ((words d).length) ac3]) rfl rfl) ?_
 intro a hA
 refine seq_new (vs := [.bool false, .slice none 0 0, .bool false, .slice none 0 0, .slice none 0 0]) (t := 55) hA hS rfl rfl rfl (fun g => .pointer (some ⟨g, 0, none⟩)) (d_alloc (z := .agg #[.bool false, .slice none 0 0, .bool false, .slice none 0 0, .slice none 0 0]) (by kernel_rfl) rfl) rfl ?_
 intro g7 w8 hS a hA
 refine seq_store (us := [.bool ((rb x)), .slice a1 ((words x.natAbs).length) ac1, .bool ((rb y)), .slice a2 ((words y.natAbs).length) ac2, .slice a3 ((words d).length) ac3]) hA hS rfl rfl (sets_store rfl rfl rfl (by kernel_rfl) hS 0 rfl rfl rfl) 0 rfl rfl rfl rfl ?_
 intro w9 hS
 refine seq_end ?_
 refine hK6 _ _ ?_
 refine wp_seq_k (fun K10 hK10 => ?_)
 refine wp_seq_k (fun K11 hK11 => ?_)
 refine wp_region_lit ?_
 refine seq_do hA rfl rfl rfl (d_move rfl) ?_
 intro a hA
 refine seq_do (v := .int .i64 (((n - 1 : Nat) : Int))) hA rfl rfl rfl (d_bin rfl rfl (fun w => (bin_sub (i64In (by omega) (by omega)) w).trans (by rw [show (((n : Nat) : Int) - 1 : Int) = ((n - 1 : Nat) : Int) from by omega]))) ?_
 intro a hA
 refine seq_do hA rfl rfl rfl (d_move rfl) ?_
 intro a hA
 refine seq_end ?_
 refine hK11 _ _ ?_
 refine wp_block ?_
 refine wp_loop_n (fun m a w1 => ∃ (i : Nat) (X : Int) (Y : Int) (D : Nat) (po1 : Option Addr) (poc1 : Nat) (po2 : Option Addr) (poc2 : Nat) (po3 : Option Addr) (poc3 : Nat), m = n - 1 - i ∧ (i + 1 ≤ n ∧ pwB u v (i + 1) = true ∧ PwOut u v (i + 1) X Y D ∧ Ncap po1 poc1 (words X.natAbs) ∧ Ncap po2 poc2 (words Y.natAbs) ∧ Ncap po3 poc3 (words D)) ∧ Sl a 45 [(0, .agg #[.bool ((rb x)), .slice a1 ((words x.natAbs).length) ac1, .bool ((rb y)), .slice a2 ((words y.natAbs).length) ac2, .slice a3 ((words d).length) ac3]), (1, .int .i64 (((n : Nat) : Int))), (2, .pointer (some ⟨g2, 0, none⟩)), (4, .pointer (some ⟨g4, 0, none⟩)), (6, .pointer (some ⟨g7, 0, none⟩)), (9, .agg #[.bool ((rb x)), .slice a1 ((words x.natAbs).length) ac1, .bool ((rb y)), .slice a2 ((words y.natAbs).length) ac2, .slice a3 ((words d).length) ac3]), (10, .int .i64 (((n : Nat) : Int))), (11, .int .i64 (((n - 1 : Nat) : Int))), (12, .int .i64 (((i : Nat) : Int)))] ∧ St w w1 [(g7, [.bool ((rb X)), .slice po1 ((words X.natAbs).length) poc1, .bool ((rb Y)), .slice po2 ((words Y.natAbs).length) poc2, .slice po3 ((words D).length) poc3]), (g4, [.bool false, .slice none 0 0, .bool false, .slice none 0 0, .slice none 0 0]), (g2, [.bool ((rb x)), .slice a1 ((words x.natAbs).length) ac1, .bool ((rb y)), .slice a2 ((words y.natAbs).length) ac2, .slice a3 ((words d).length) ac3])] [(po1, words X.natAbs), (po2, words Y.natAbs), (po3, words D), (a3, words d), (a2, words y.natAbs), (a1, words x.natAbs)] []) _ ⟨0, x, y, d, a1, ac1, a2, ac2, a3, ac3, rfl, ⟨hn1, pwB_first fu fv, pwOut_first hd hu hv l1 l2 l3, ha1.ncap, ha2.ncap, ha3.ncap⟩, hA.keep _ ⟨rfl, rfl, rfl, rfl, rfl, rfl, rfl, rfl, rfl, trivial⟩, ((hS.pickR [(a1, words x.natAbs), (a2, words y.natAbs), (a3, words d), (a3, words d), (a2, words y.natAbs), (a1, words x.natAbs)] ⟨⟨2, rfl⟩, ⟨⟨1, rfl⟩, ⟨⟨0, rfl⟩, ⟨⟨0, rfl⟩, ⟨⟨1, rfl⟩, ⟨⟨2, rfl⟩, trivial⟩⟩⟩⟩⟩⟩).subL _ (.refl _))⟩ ?_
 clear hS hA
 rintro m a w12 ⟨i, X, Y, D, po1, poc1, po2, poc2, po3, poc3, rfl, hinv14, hA, hS⟩ K13 hK13
 obtain ⟨hi9, hB9, ⟨hD9, hX9, hY9, lX9, lY9, lD9⟩, kn1, kn2, kn3⟩ := hinv14
 have hS9 := pw_step hD9 hd hX9 hY9 hu hv
 have q1 := abs_mul_len lX9 l1
 have q2 := abs_mul_len lY9 l2
 have q3 := abs_mul_len lX9 l2
 have q4 := abs_mul_len lY9 l1
 have q5 := abs_add_len q1 (neg_len q2)
 have q6 := abs_add_len q3 q4
 have q7 := words_mul_length lD9 l3
 refine wp_seq_k (fun K15 hK15 => ?_)
 refine wp_region_lit ?_
 rcases Bool.eq_false_or_eq_true (decide (((i : Nat) : Int) < ((n - 1 : Nat) : Int))) with hb16 | hb16
 · have hb16' := of_decide_eq_true hb16
   refine seq_do (v := .bool true) hA rfl rfl rfl (d_bin rfl rfl (fun w => (bin_lss w).trans (by rw [hb16]))) ?_
   intro a hA
   refine seq_end ?_
   refine hK15 _ _ ?_
   refine wp_seq_k (fun K17 hK17 => ?_)
   refine wp_cond_true (hA.ev rfl) ?_
   refine wp_skip ?_
   refine hK17 _ _ ?_
   refine wp_seq_k (fun K18 hK18 => ?_)
   refine wp_block ?_
   refine wp_seq_k (fun K19 hK19 => ?_)
   refine wp_region_lit ?_
   refine seq_do hA rfl rfl rfl (d_loadS hS ExU_isS_55 rfl 0 rfl (cs := [.bool ((rb X)), .slice po1 ((words X.natAbs).length) poc1, .bool ((rb Y)), .slice po2 ((words Y.natAbs).length) poc2, .slice po3 ((words D).length) poc3]) rfl rfl) ?_
   intro a hA
   refine seq_do hA rfl rfl rfl (d_loadS hS ExU_isS_55 rfl 2 rfl (cs := [.bool ((rb x)), .slice a1 ((words x.natAbs).length) ac1, .bool ((rb y)), .slice a2 ((words y.natAbs).length) ac2, .slice a3 ((words d).length) ac3]) rfl rfl) ?_
   intro a hA
   refine seq_call hA rfl rfl rfl (enters_func  rfl rfl (fun w => by kernel_rfl)) (zproduct_any ⟨(hS.rd 0 rfl), kn1.1, kn1.2⟩ ⟨(hS.rd 1 rfl), kn2.1, kn2.2⟩ ⟨(hS.rd 2 rfl), kn3.1, kn3.2⟩ ⟨(hS.rd 5 rfl), ha1.nil, ha1.cap⟩ ⟨(hS.rd 4 rfl), ha2.nil, ha2.cap⟩ ⟨(hS.rd 3 rfl), ha3.nil, ha3.cap⟩ (by omega) (by omega) (by omega) (by omega) (by omega) (by omega)) ?_
   rintro _ w25 ⟨p20_1, p20_c1, p20_2, p20_c2, p20_3, p20_c3, rfl, hs21, hs22, hs23, hb24⟩
   replace hS := hS.call hb24
   replace hS := hS.addR hs21.rd
   replace hS := hS.addR hs22.rd
   replace hS := hS.addR hs23.rd
   refine ⟨_, rfl, ?_⟩
   intro a hA
   refine seq_store (us := [.bool ((rb (X * x + -(Y * y)))), .slice p20_1 ((words (X * x + -(Y * y)).natAbs).length) p20_c1, .bool ((rb (X * y + Y * x))), .slice p20_2 ((words (X * y + Y * x).natAbs).length) p20_c2, .slice p20_3 ((words (D * d)).length) p20_c3]) hA hS rfl rfl (sets_store rfl rfl rfl (by kernel_rfl) hS 0 rfl rfl rfl) 0 rfl rfl rfl rfl ?_
   intro w26 hS
   refine seq_end ?_
   refine hK19 _ _ ?_
   refine wp_seq_k (fun K27 hK27 => ?_)
   refine wp_seq_k (fun K28 hK28 => ?_)
   refine wp_region_lit ?_
   refine seq_do (v := .pointer (some ⟨g7, 0, none⟩)) hA rfl rfl rfl (d_field ExU_fld_55_0 rfl rfl) ?_
   intro a hA
   refine seq_do (v := .pointer (some ⟨g7, 1, none⟩)) hA rfl rfl rfl (d_field ExU_fld_53_1 rfl rfl) ?_
   intro a hA
   refine seq_do hA rfl rfl rfl (d_load1 hS ExU_is1_22 rfl 0 rfl rfl) ?_
   intro a hA
   rcases Bool.eq_false_or_eq_true (decide ((words (X * x + -(Y * y)).natAbs).length ≤ 512)) with hb29 | hb29
   · have hb29' := of_decide_eq_true hb29
     refine seq_call hA rfl rfl rfl (enters_func  rfl rfl (fun w => by kernel_rfl)) (soundB_any _ (hS.rd 2 rfl) (by omega) hb29) ?_
     rintro _ w31 ⟨rfl, hb30⟩
     replace hb30 := below_eq hb30
     replace hS := hS.call hb30
     refine ⟨_, rfl, ?_⟩
     intro a hA
     refine seq_do hA rfl rfl rfl (d_move rfl) ?_
     intro a hA
     refine seq_do (v := .pointer (some ⟨g7, 2, none⟩)) hA rfl rfl rfl (d_field ExU_fld_55_1 rfl rfl) ?_
     intro a hA
     refine seq_do (v := .pointer (some ⟨g7, 3, none⟩)) hA rfl rfl rfl (d_field ExU_fld_53_1 rfl rfl) ?_
     intro a hA
     refine seq_do hA rfl rfl rfl (d_load1 hS ExU_is1_22 rfl 0 rfl rfl) ?_
     intro a hA
     rcases Bool.eq_false_or_eq_true (decide ((words (X * y + Y * x).natAbs).length ≤ 512)) with hb32 | hb32
     · have hb32' := of_decide_eq_true hb32
       refine seq_call hA rfl rfl rfl (enters_func  rfl rfl (fun w => by kernel_rfl)) (soundB_any _ (hS.rd 1 rfl) (by omega) hb32) ?_
       rintro _ w34 ⟨rfl, hb33⟩
       replace hb33 := below_eq hb33
       replace hS := hS.call hb33
       refine ⟨_, rfl, ?_⟩
       intro a hA
       refine seq_do (v := .bool true) hA rfl rfl rfl (d_pick rfl rfl rfl rfl) ?_
       intro a hA
       refine seq_do hA rfl rfl rfl (d_move rfl) ?_
       intro a hA
       refine seq_do (v := .pointer (some ⟨g7, 4, none⟩)) hA rfl rfl rfl (d_field ExU_fld_55_2 rfl rfl) ?_
       intro a hA
       refine seq_do hA rfl rfl rfl (d_load1 hS ExU_is1_22 rfl 0 rfl rfl) ?_
       intro a hA
       rcases Bool.eq_false_or_eq_true (decide ((words (D * d)).length ≤ 512)) with hb35 | hb35
       · have hb35' := of_decide_eq_true hb35
         refine seq_call hA rfl rfl rfl (enters_func  rfl rfl (fun w => by kernel_rfl)) (soundB_any _ (hS.rd 0 rfl) (by omega) hb35) ?_
         rintro _ w37 ⟨rfl, hb36⟩
         replace hb36 := below_eq hb36
         replace hS := hS.call hb36
         refine ⟨_, rfl, ?_⟩
         intro a hA
         refine seq_do (v := .bool true) hA rfl rfl rfl (d_pick rfl rfl rfl rfl) ?_
         intro a hA
         refine seq_end ?_
         refine hK28 _ _ ?_
         refine wp_cond_true (hA.ev rfl) ?_
         refine wp_exit ?_
         refine hK18 _ _ ?_
         refine wp_region_lit ?_
         refine seq_do (v := .int .i64 (((i + 1 : Nat) : Int))) hA rfl rfl rfl (d_bin rfl rfl (fun w => (bin_add (i64In (by omega) (by omega)) w).trans (by rw [show (((i : Nat) : Int) + 1 : Int) = ((i + 1 : Nat) : Int) from by omega]))) ?_
         intro a hA
         refine seq_do hA rfl rfl rfl (d_move rfl) ?_
         intro a hA
         refine seq_end ?_
         refine hK13 _ _ _ (by omega) ⟨i + 1, X * x + -(Y * y), X * y + Y * x, D * d, p20_1, p20_c1, p20_2, p20_c2, p20_3, p20_c3, rfl, ⟨by omega, pwB_step hB9 (fit_mk (Nat.mul_ne_zero hD9 hd) (of_decide_eq_true hb29) (of_decide_eq_true hb35) hS9.1) (fit_mk (Nat.mul_ne_zero hD9 hd) (of_decide_eq_true hb32) (of_decide_eq_true hb35) hS9.2), ⟨Nat.mul_ne_zero hD9 hd, hS9.1, hS9.2, Nat.le_trans (of_decide_eq_true hb29) (by decide), Nat.le_trans (of_decide_eq_true hb32) (by decide), Nat.le_trans (of_decide_eq_true hb35) (by decide)⟩, ⟨hs21.nil, hs21.cap⟩, ⟨hs22.nil, hs22.cap⟩, ⟨hs23.nil, hs23.cap⟩⟩, hA.keep _ ⟨rfl, rfl, rfl, rfl, rfl, rfl, rfl, rfl, rfl, trivial⟩, ((hS.pickR [(p20_1, words (X * x + -(Y * y)).natAbs), (p20_2, words (X * y + Y * x).natAbs), (p20_3, words (D * d)), (a3, words d), (a2, words y.natAbs), (a1, words x.natAbs)] ⟨⟨2, rfl⟩, ⟨⟨1, rfl⟩, ⟨⟨0, rfl⟩, ⟨⟨6, rfl⟩, ⟨⟨7, rfl⟩, ⟨⟨8, rfl⟩, trivial⟩⟩⟩⟩⟩⟩).subL _ (.refl _))⟩
       · have hb35' := of_decide_eq_false hb35
         refine seq_call hA rfl rfl rfl (enters_func  rfl rfl (fun w => by kernel_rfl)) (soundB_any _ (hS.rd 0 rfl) (by omega) hb35) ?_
         rintro _ w39 ⟨rfl, hb38⟩
         replace hb38 := below_eq hb38
         replace hS := hS.call hb38
         refine ⟨_, rfl, ?_⟩
         intro a hA
         refine seq_do (v := .bool false) hA rfl rfl rfl (d_pick rfl rfl rfl rfl) ?_
         intro a hA
         refine seq_end ?_
         refine hK28 _ _ ?_
         refine wp_cond_false (hA.ev rfl) ?_
         refine wp_skip ?_
         refine hK27 _ _ ?_
         refine wp_seq_k (fun K40 hK40 => ?_)
         refine wp_region_lit ?_
         refine seq_do hA rfl rfl rfl (d_loadS hS ExU_isS_55 rfl 0 rfl (cs := [.bool ((rb (X * x + -(Y * y)))), .slice p20_1 ((words (X * x + -(Y * y)).natAbs).length) p20_c1, .bool ((rb (X * y + Y * x))), .slice p20_2 ((words (X * y + Y * x).natAbs).length) p20_c2, .slice p20_3 ((words (D * d)).length) p20_c3]) rfl rfl) ?_
         intro a hA
         rcases Bool.eq_false_or_eq_true (fitB (pwR u v (i + 1 + 1))) with hb41 | hb41
         · refine seq_call hA rfl rfl rfl (enters_func  rfl rfl (fun w => by kernel_rfl)) (zsettle_as ⟨(hS.rd 2 rfl), hs21.nil, hs21.cap⟩ ⟨(hS.rd 1 rfl), hs22.nil, hs22.cap⟩ ⟨(hS.rd 0 rfl), hs23.nil, hs23.cap⟩ ((set_pw (Nat.mul_ne_zero hD9 hd) hS9.1 hS9.2).trans (ratS_fit (fitB_ok hb41).1 (fitB_ok hb41).2)) (by omega) (by omega) (by omega) (Nat.mul_ne_zero hD9 hd)) ?_
           rintro _ w45 ⟨p42_1, p42_c1, p42_2, p42_c2, p42_3, p42_c3, p42_4, p42_c4, rfl, hn43, hb44⟩
           replace hS := hS.call hb44
           replace hS := hS.addR hn43.s1.rd
           replace hS := hS.addR hn43.s2.rd
           replace hS := hS.addR hn43.s3.rd
           replace hS := hS.addR hn43.s4.rd
           refine ⟨_, rfl, ?_⟩
           intro a hA
           refine seq_do hA rfl rfl rfl (d_move rfl) ?_
           intro a hA
           refine seq_do (v := .agg #[.bool (rb (pwR u v (i + 1 + 1)).1.num), .slice p42_1 ((words (pwR u v (i + 1 + 1)).1.num.natAbs).length) p42_c1, .slice p42_2 ((words (pwR u v (i + 1 + 1)).1.den).length) p42_c2, .bool (rb (pwR u v (i + 1 + 1)).2.num), .slice p42_3 ((words (pwR u v (i + 1 + 1)).2.num.natAbs).length) p42_c3, .slice p42_4 ((words (pwR u v (i + 1 + 1)).2.den).length) p42_c4]) hA rfl rfl rfl (d_extract (vs := [.agg #[.bool (rb (pwR u v (i + 1 + 1)).1.num), .slice p42_1 ((words (pwR u v (i + 1 + 1)).1.num.natAbs).length) p42_c1, .slice p42_2 ((words (pwR u v (i + 1 + 1)).1.den).length) p42_c2, .bool (rb (pwR u v (i + 1 + 1)).2.num), .slice p42_3 ((words (pwR u v (i + 1 + 1)).2.num.natAbs).length) p42_c3, .slice p42_4 ((words (pwR u v (i + 1 + 1)).2.den).length) p42_c4], .int .i64 0]) rfl rfl) ?_
           intro a hA
           refine seq_do (v := .int .i64 0) hA rfl rfl rfl (d_extract (vs := [.agg #[.bool (rb (pwR u v (i + 1 + 1)).1.num), .slice p42_1 ((words (pwR u v (i + 1 + 1)).1.num.natAbs).length) p42_c1, .slice p42_2 ((words (pwR u v (i + 1 + 1)).1.den).length) p42_c2, .bool (rb (pwR u v (i + 1 + 1)).2.num), .slice p42_3 ((words (pwR u v (i + 1 + 1)).2.num.natAbs).length) p42_c3, .slice p42_4 ((words (pwR u v (i + 1 + 1)).2.den).length) p42_c4], .int .i64 0]) rfl rfl) ?_
           intro a hA
           refine seq_new (vs := [.bool false, .slice none 0 0, .slice none 0 0, .bool false, .slice none 0 0, .slice none 0 0]) (t := 26) hA hS rfl rfl rfl (fun g => .pointer (some ⟨g, 0, none⟩)) (d_alloc (z := .agg #[.bool false, .slice none 0 0, .slice none 0 0, .bool false, .slice none 0 0, .slice none 0 0]) (by kernel_rfl) rfl) rfl ?_
           intro g46 w47 hS a hA
           refine seq_store (us := [.bool (rb (pwR u v (i + 1 + 1)).1.num), .slice p42_1 ((words (pwR u v (i + 1 + 1)).1.num.natAbs).length) p42_c1, .slice p42_2 ((words (pwR u v (i + 1 + 1)).1.den).length) p42_c2, .bool (rb (pwR u v (i + 1 + 1)).2.num), .slice p42_3 ((words (pwR u v (i + 1 + 1)).2.num.natAbs).length) p42_c3, .slice p42_4 ((words (pwR u v (i + 1 + 1)).2.den).length) p42_c4]) hA hS rfl rfl (sets_store rfl rfl rfl (by kernel_rfl) hS 0 rfl rfl rfl) 0 rfl rfl rfl rfl ?_
           intro w48 hS
           refine seq_do hA rfl rfl rfl (d_assign rfl) ?_
           intro a hA
           refine seq_end ?_
           refine hK40 _ _ ?_
           refine wp_seq_k (fun K49 hK49 => ?_)
           refine wp_seq_k (fun K50 hK50 => ?_)
           refine wp_region_lit ?_
           refine seq_do hA rfl rfl rfl (d_move rfl) ?_
           intro a hA
           refine seq_do (v := .bool false) hA rfl rfl rfl (d_bin rfl rfl (fun w => by kernel_rfl)) ?_
           intro a hA
           refine seq_end ?_
           refine hK50 _ _ ?_
           refine wp_cond_false (hA.ev rfl) ?_
           refine wp_skip ?_
           refine hK49 _ _ ?_
           refine wp_region_lit ?_
           refine seq_do hA rfl rfl rfl (d_loadS hS ExU_isS_26 rfl 0 rfl (cs := [.bool (rb (pwR u v (i + 1 + 1)).1.num), .slice p42_1 ((words (pwR u v (i + 1 + 1)).1.num.natAbs).length) p42_c1, .slice p42_2 ((words (pwR u v (i + 1 + 1)).1.den).length) p42_c2, .bool (rb (pwR u v (i + 1 + 1)).2.num), .slice p42_3 ((words (pwR u v (i + 1 + 1)).2.num.natAbs).length) p42_c3, .slice p42_4 ((words (pwR u v (i + 1 + 1)).2.den).length) p42_c4]) rfl rfl) ?_
           intro a hA
           refine seq_call hA rfl rfl rfl (enters_func  rfl rfl (fun w => by kernel_rfl)) (zspread_any (u := (pwR u v (i + 1 + 1)).1) (v := (pwR u v (i + 1 + 1)).2) (show Nm _ (Q6.rat (pwR u v (i + 1 + 1)).1 (pwR u v (i + 1 + 1)).2) p42_1 p42_c1 p42_2 p42_c2 p42_3 p42_c3 p42_4 p42_c4 from ⟨⟨(hS.rd 3 rfl), hn43.s1.nil, hn43.s1.cap⟩, ⟨(hS.rd 2 rfl), hn43.s2.nil, hn43.s2.cap⟩, ⟨(hS.rd 1 rfl), hn43.s3.nil, hn43.s3.cap⟩, ⟨(hS.rd 0 rfl), hn43.s4.nil, hn43.s4.cap⟩⟩) (fitB_ok hb41).1 (fitB_ok hb41).2) ?_
           rintro _ w56 ⟨p51_1, p51_c1, p51_2, p51_c2, p51_3, p51_c3, rfl, hs52, hs53, hs54, hb55⟩
           replace hS := hS.call hb55
           replace hS := hS.addR hs52.rd
           replace hS := hS.addR hs53.rd
           replace hS := hS.addR hs54.rd
           refine ⟨_, rfl, ?_⟩
           intro a hA
           refine seq_store (us := [.bool ((rb (spX (pwR u v (i + 1 + 1)).1 (pwR u v (i + 1 + 1)).2))), .slice p51_1 ((words (spX (pwR u v (i + 1 + 1)).1 (pwR u v (i + 1 + 1)).2).natAbs).length) p51_c1, .bool ((rb (spY (pwR u v (i + 1 + 1)).1 (pwR u v (i + 1 + 1)).2))), .slice p51_2 ((words (spY (pwR u v (i + 1 + 1)).1 (pwR u v (i + 1 + 1)).2).natAbs).length) p51_c2, .slice p51_3 ((words (spD (pwR u v (i + 1 + 1)).1 (pwR u v (i + 1 + 1)).2)).length) p51_c3]) hA hS rfl rfl (sets_store rfl rfl rfl (by kernel_rfl) hS 1 rfl rfl rfl) 1 rfl rfl rfl rfl ?_
           intro w57 hS
           refine seq_end ?_
           refine hK18 _ _ ?_
           refine wp_region_lit ?_
           refine seq_do (v := .int .i64 (((i + 1 : Nat) : Int))) hA rfl rfl rfl (d_bin rfl rfl (fun w => (bin_add (i64In (by omega) (by omega)) w).trans (by rw [show (((i : Nat) : Int) + 1 : Int) = ((i + 1 : Nat) : Int) from by omega]))) ?_
           intro a hA
           refine seq_do hA rfl rfl rfl (d_move rfl) ?_
           intro a hA
           refine seq_end ?_
           refine hK13 _ _ _ (by omega) ⟨i + 1, spX (pwR u v (i + 1 + 1)).1 (pwR u v (i + 1 + 1)).2, spY (pwR u v (i + 1 + 1)).1 (pwR u v (i + 1 + 1)).2, spD (pwR u v (i + 1 + 1)).1 (pwR u v (i + 1 + 1)).2, p51_1, p51_c1, p51_2, p51_c2, p51_3, p51_c3, rfl, ⟨by omega, pwB_step hB9 (fitB_ok hb41).1 (fitB_ok hb41).2, ⟨spD_ne _ _, spX_mk _ _, spY_mk _ _, spX_len (fitB_ok hb41).1 (fitB_ok hb41).2, spY_len (fitB_ok hb41).1 (fitB_ok hb41).2, spD_len (fitB_ok hb41).1 (fitB_ok hb41).2⟩, ⟨hs52.nil, hs52.cap⟩, ⟨hs53.nil, hs53.cap⟩, ⟨hs54.nil, hs54.cap⟩⟩, hA.keep _ ⟨rfl, rfl, rfl, rfl, rfl, rfl, rfl, rfl, rfl, trivial⟩, ((hS.pickR [(p51_1, words (spX (pwR u v (i + 1 + 1)).1 (pwR u v (i + 1 + 1)).2).natAbs), (p51_2, words (spY (pwR u v (i + 1 + 1)).1 (pwR u v (i + 1 + 1)).2).natAbs), (p51_3, words (spD (pwR u v (i + 1 + 1)).1 (pwR u v (i + 1 + 1)).2)), (a3, words d), (a2, words y.natAbs), (a1, words x.natAbs)] ⟨⟨2, rfl⟩, ⟨⟨1, rfl⟩, ⟨⟨0, rfl⟩, ⟨⟨13, rfl⟩, ⟨⟨14, rfl⟩, ⟨⟨15, rfl⟩, trivial⟩⟩⟩⟩⟩⟩).subL _ (.cons _ (.cons_cons _ (.cons_cons _ (.cons_cons _ .slnil)))))⟩
         · refine seq_call hA rfl rfl rfl (enters_func  rfl rfl (fun w => by kernel_rfl)) (zsettle_as ⟨(hS.rd 2 rfl), hs21.nil, hs21.cap⟩ ⟨(hS.rd 1 rfl), hs22.nil, hs22.cap⟩ ⟨(hS.rd 0 rfl), hs23.nil, hs23.cap⟩ ((set_pw (Nat.mul_ne_zero hD9 hd) hS9.1 hS9.2).trans (ratS_no (fitB_no hb41))) (by omega) (by omega) (by omega) (Nat.mul_ne_zero hD9 hd)) ?_
           rintro _ w61 ⟨p58_1, p58_c1, p58_2, p58_c2, p58_3, p58_c3, p58_4, p58_c4, rfl, hn59, hb60⟩
           replace hS := hS.call hb60
           replace hS := hS.addR hn59.s1.rd
           replace hS := hS.addR hn59.s2.rd
           replace hS := hS.addR hn59.s3.rd
           replace hS := hS.addR hn59.s4.rd
           refine ⟨_, rfl, ?_⟩
           intro a hA
           refine seq_do hA rfl rfl rfl (d_move rfl) ?_
           intro a hA
           refine seq_do (v := .agg #[.bool false, .slice p58_1 0 p58_c1, .slice p58_2 0 p58_c2, .bool false, .slice p58_3 0 p58_c3, .slice p58_4 0 p58_c4]) hA rfl rfl rfl (d_extract (vs := [.agg #[.bool false, .slice p58_1 0 p58_c1, .slice p58_2 0 p58_c2, .bool false, .slice p58_3 0 p58_c3, .slice p58_4 0 p58_c4], .int .i64 4]) rfl rfl) ?_
           intro a hA
           refine seq_do (v := .int .i64 4) hA rfl rfl rfl (d_extract (vs := [.agg #[.bool false, .slice p58_1 0 p58_c1, .slice p58_2 0 p58_c2, .bool false, .slice p58_3 0 p58_c3, .slice p58_4 0 p58_c4], .int .i64 4]) rfl rfl) ?_
           intro a hA
           refine seq_new (vs := [.bool false, .slice none 0 0, .slice none 0 0, .bool false, .slice none 0 0, .slice none 0 0]) (t := 26) hA hS rfl rfl rfl (fun g => .pointer (some ⟨g, 0, none⟩)) (d_alloc (z := .agg #[.bool false, .slice none 0 0, .slice none 0 0, .bool false, .slice none 0 0, .slice none 0 0]) (by kernel_rfl) rfl) rfl ?_
           intro g62 w63 hS a hA
           refine seq_store (us := [.bool false, .slice p58_1 0 p58_c1, .slice p58_2 0 p58_c2, .bool false, .slice p58_3 0 p58_c3, .slice p58_4 0 p58_c4]) hA hS rfl rfl (sets_store rfl rfl rfl (by kernel_rfl) hS 0 rfl rfl rfl) 0 rfl rfl rfl rfl ?_
           intro w64 hS
           refine seq_do hA rfl rfl rfl (d_assign rfl) ?_
           intro a hA
           refine seq_end ?_
           refine hK40 _ _ ?_
           refine wp_seq_k (fun K65 hK65 => ?_)
           refine wp_seq_k (fun K66 hK66 => ?_)
           refine wp_region_lit ?_
           refine seq_do hA rfl rfl rfl (d_move rfl) ?_
           intro a hA
           refine seq_do (v := .bool true) hA rfl rfl rfl (d_bin rfl rfl (fun w => by kernel_rfl)) ?_
           intro a hA
           refine seq_end ?_
           refine hK66 _ _ ?_
           refine wp_cond_true (hA.ev rfl) ?_
           refine wp_seq_k (fun K67 hK67 => ?_)
           refine wp_region_lit ?_
           refine seq_do (v := .agg #[.bool false, .slice none 0 0, .bool false, .slice none 0 0, .slice none 0 0]) hA rfl rfl rfl (d_build rfl (fun w => by kernel_rfl)) ?_
           intro a hA
           refine seq_do hA rfl rfl rfl (d_move rfl) ?_
           intro a hA
           refine seq_store (us := [.bool false, .slice none 0 0, .bool false, .slice none 0 0, .slice none 0 0]) hA hS rfl rfl (sets_store rfl rfl rfl (by kernel_rfl) hS 2 rfl rfl rfl) 2 rfl rfl rfl rfl ?_
           intro w68 hS
           refine seq_do hA rfl rfl rfl (d_assign rfl) ?_
           intro a hA
           refine seq_end ?_
           refine hK67 _ _ ?_
           refine wp_ret ?_
           refine hret _ _ ?_
           refine ends (v := .tuple #[.agg #[.bool false, .slice none 0 0, .bool false, .slice none 0 0, .slice none 0 0], .int .i64 4]) hA rfl (.cons (res_cell hS ExU_isS_55 rfl 2 rfl (cs := [.bool false, .slice none 0 0, .bool false, .slice none 0 0, .slice none 0 0]) rfl rfl) (.cons (res_tmp rfl) .nil)) rfl ?_
           exact .inr ⟨pwB_stop (k := i + 1 + 1) (by omega) (fitB_no hb41), rfl, hS.bel⟩
     · have hb32' := of_decide_eq_false hb32
       refine seq_call hA rfl rfl rfl (enters_func  rfl rfl (fun w => by kernel_rfl)) (soundB_any _ (hS.rd 1 rfl) (by omega) hb32) ?_
       rintro _ w70 ⟨rfl, hb69⟩
       replace hb69 := below_eq hb69
       replace hS := hS.call hb69
       refine ⟨_, rfl, ?_⟩
       intro a hA
       refine seq_do (v := .bool false) hA rfl rfl rfl (d_pick rfl rfl rfl rfl) ?_
       intro a hA
       refine seq_do hA rfl rfl rfl (d_move rfl) ?_
       intro a hA
       refine seq_skip hA rfl rfl rfl ?_
       intro a hA
       refine seq_skip hA rfl rfl rfl ?_
       intro a hA
       refine seq_skip hA rfl rfl rfl ?_
       intro a hA
       refine seq_do (v := .bool false) hA rfl rfl rfl (d_pick rfl rfl rfl rfl) ?_
       intro a hA
       refine seq_end ?_
       refine hK28 _ _ ?_
       refine wp_cond_false (hA.ev rfl) ?_
       refine wp_skip ?_
       refine hK27 _ _ ?_
       refine wp_seq_k (fun K71 hK71 => ?_)
       refine wp_region_lit ?_
       refine seq_do hA rfl rfl rfl (d_loadS hS ExU_isS_55 rfl 0 rfl (cs := [.bool ((rb (X * x + -(Y * y)))), .slice p20_1 ((words (X * x + -(Y * y)).natAbs).length) p20_c1, .bool ((rb (X * y + Y * x))), .slice p20_2 ((words (X * y + Y * x).natAbs).length) p20_c2, .slice p20_3 ((words (D * d)).length) p20_c3]) rfl rfl) ?_
       intro a hA
       rcases Bool.eq_false_or_eq_true (fitB (pwR u v (i + 1 + 1))) with hb72 | hb72
       · refine seq_call hA rfl rfl rfl (enters_func  rfl rfl (fun w => by kernel_rfl)) (zsettle_as ⟨(hS.rd 2 rfl), hs21.nil, hs21.cap⟩ ⟨(hS.rd 1 rfl), hs22.nil, hs22.cap⟩ ⟨(hS.rd 0 rfl), hs23.nil, hs23.cap⟩ ((set_pw (Nat.mul_ne_zero hD9 hd) hS9.1 hS9.2).trans (ratS_fit (fitB_ok hb72).1 (fitB_ok hb72).2)) (by omega) (by omega) (by omega) (Nat.mul_ne_zero hD9 hd)) ?_
         rintro _ w76 ⟨p73_1, p73_c1, p73_2, p73_c2, p73_3, p73_c3, p73_4, p73_c4, rfl, hn74, hb75⟩
         replace hS := hS.call hb75
         replace hS := hS.addR hn74.s1.rd
         replace hS := hS.addR hn74.s2.rd
         replace hS := hS.addR hn74.s3.rd
         replace hS := hS.addR hn74.s4.rd
         refine ⟨_, rfl, ?_⟩
         intro a hA
         refine seq_do hA rfl rfl rfl (d_move rfl) ?_
         intro a hA
         refine seq_do (v := .agg #[.bool (rb (pwR u v (i + 1 + 1)).1.num), .slice p73_1 ((words (pwR u v (i + 1 + 1)).1.num.natAbs).length) p73_c1, .slice p73_2 ((words (pwR u v (i + 1 + 1)).1.den).length) p73_c2, .bool (rb (pwR u v (i + 1 + 1)).2.num), .slice p73_3 ((words (pwR u v (i + 1 + 1)).2.num.natAbs).length) p73_c3, .slice p73_4 ((words (pwR u v (i + 1 + 1)).2.den).length) p73_c4]) hA rfl rfl rfl (d_extract (vs := [.agg #[.bool (rb (pwR u v (i + 1 + 1)).1.num), .slice p73_1 ((words (pwR u v (i + 1 + 1)).1.num.natAbs).length) p73_c1, .slice p73_2 ((words (pwR u v (i + 1 + 1)).1.den).length) p73_c2, .bool (rb (pwR u v (i + 1 + 1)).2.num), .slice p73_3 ((words (pwR u v (i + 1 + 1)).2.num.natAbs).length) p73_c3, .slice p73_4 ((words (pwR u v (i + 1 + 1)).2.den).length) p73_c4], .int .i64 0]) rfl rfl) ?_
         intro a hA
         refine seq_do (v := .int .i64 0) hA rfl rfl rfl (d_extract (vs := [.agg #[.bool (rb (pwR u v (i + 1 + 1)).1.num), .slice p73_1 ((words (pwR u v (i + 1 + 1)).1.num.natAbs).length) p73_c1, .slice p73_2 ((words (pwR u v (i + 1 + 1)).1.den).length) p73_c2, .bool (rb (pwR u v (i + 1 + 1)).2.num), .slice p73_3 ((words (pwR u v (i + 1 + 1)).2.num.natAbs).length) p73_c3, .slice p73_4 ((words (pwR u v (i + 1 + 1)).2.den).length) p73_c4], .int .i64 0]) rfl rfl) ?_
         intro a hA
         refine seq_new (vs := [.bool false, .slice none 0 0, .slice none 0 0, .bool false, .slice none 0 0, .slice none 0 0]) (t := 26) hA hS rfl rfl rfl (fun g => .pointer (some ⟨g, 0, none⟩)) (d_alloc (z := .agg #[.bool false, .slice none 0 0, .slice none 0 0, .bool false, .slice none 0 0, .slice none 0 0]) (by kernel_rfl) rfl) rfl ?_
         intro g77 w78 hS a hA
         refine seq_store (us := [.bool (rb (pwR u v (i + 1 + 1)).1.num), .slice p73_1 ((words (pwR u v (i + 1 + 1)).1.num.natAbs).length) p73_c1, .slice p73_2 ((words (pwR u v (i + 1 + 1)).1.den).length) p73_c2, .bool (rb (pwR u v (i + 1 + 1)).2.num), .slice p73_3 ((words (pwR u v (i + 1 + 1)).2.num.natAbs).length) p73_c3, .slice p73_4 ((words (pwR u v (i + 1 + 1)).2.den).length) p73_c4]) hA hS rfl rfl (sets_store rfl rfl rfl (by kernel_rfl) hS 0 rfl rfl rfl) 0 rfl rfl rfl rfl ?_
         intro w79 hS
         refine seq_do hA rfl rfl rfl (d_assign rfl) ?_
         intro a hA
         refine seq_end ?_
         refine hK71 _ _ ?_
         refine wp_seq_k (fun K80 hK80 => ?_)
         refine wp_seq_k (fun K81 hK81 => ?_)
         refine wp_region_lit ?_
         refine seq_do hA rfl rfl rfl (d_move rfl) ?_
         intro a hA
         refine seq_do (v := .bool false) hA rfl rfl rfl (d_bin rfl rfl (fun w => by kernel_rfl)) ?_
         intro a hA
         refine seq_end ?_
         refine hK81 _ _ ?_
         refine wp_cond_false (hA.ev rfl) ?_
         refine wp_skip ?_
         refine hK80 _ _ ?_
         refine wp_region_lit ?_
         refine seq_do hA rfl rfl rfl (d_loadS hS ExU_isS_26 rfl 0 rfl (cs := [.bool (rb (pwR u v (i + 1 + 1)).1.num), .slice p73_1 ((words (pwR u v (i + 1 + 1)).1.num.natAbs).length) p73_c1, .slice p73_2 ((words (pwR u v (i + 1 + 1)).1.den).length) p73_c2, .bool (rb (pwR u v (i + 1 + 1)).2.num), .slice p73_3 ((words (pwR u v (i + 1 + 1)).2.num.natAbs).length) p73_c3, .slice p73_4 ((words (pwR u v (i + 1 + 1)).2.den).length) p73_c4]) rfl rfl) ?_
         intro a hA
         refine seq_call hA rfl rfl rfl (enters_func  rfl rfl (fun w => by kernel_rfl)) (zspread_any (u := (pwR u v (i + 1 + 1)).1) (v := (pwR u v (i + 1 + 1)).2) (show Nm _ (Q6.rat (pwR u v (i + 1 + 1)).1 (pwR u v (i + 1 + 1)).2) p73_1 p73_c1 p73_2 p73_c2 p73_3 p73_c3 p73_4 p73_c4 from ⟨⟨(hS.rd 3 rfl), hn74.s1.nil, hn74.s1.cap⟩, ⟨(hS.rd 2 rfl), hn74.s2.nil, hn74.s2.cap⟩, ⟨(hS.rd 1 rfl), hn74.s3.nil, hn74.s3.cap⟩, ⟨(hS.rd 0 rfl), hn74.s4.nil, hn74.s4.cap⟩⟩) (fitB_ok hb72).1 (fitB_ok hb72).2) ?_
         rintro _ w87 ⟨p82_1, p82_c1, p82_2, p82_c2, p82_3, p82_c3, rfl, hs83, hs84, hs85, hb86⟩
         replace hS := hS.call hb86
         replace hS := hS.addR hs83.rd
         replace hS := hS.addR hs84.rd
         replace hS := hS.addR hs85.rd
         refine ⟨_, rfl, ?_⟩
         intro a hA
         refine seq_store (us := [.bool ((rb (spX (pwR u v (i + 1 + 1)).1 (pwR u v (i + 1 + 1)).2))), .slice p82_1 ((words (spX (pwR u v (i + 1 + 1)).1 (pwR u v (i + 1 + 1)).2).natAbs).length) p82_c1, .bool ((rb (spY (pwR u v (i + 1 + 1)).1 (pwR u v (i + 1 + 1)).2))), .slice p82_2 ((words (spY (pwR u v (i + 1 + 1)).1 (pwR u v (i + 1 + 1)).2).natAbs).length) p82_c2, .slice p82_3 ((words (spD (pwR u v (i + 1 + 1)).1 (pwR u v (i + 1 + 1)).2)).length) p82_c3]) hA hS rfl rfl (sets_store rfl rfl rfl (by kernel_rfl) hS 1 rfl rfl rfl) 1 rfl rfl rfl rfl ?_
         intro w88 hS
         refine seq_end ?_
         refine hK18 _ _ ?_
         refine wp_region_lit ?_
         refine seq_do (v := .int .i64 (((i + 1 : Nat) : Int))) hA rfl rfl rfl (d_bin rfl rfl (fun w => (bin_add (i64In (by omega) (by omega)) w).trans (by rw [show (((i : Nat) : Int) + 1 : Int) = ((i + 1 : Nat) : Int) from by omega]))) ?_
         intro a hA
         refine seq_do hA rfl rfl rfl (d_move rfl) ?_
         intro a hA
         refine seq_end ?_
         refine hK13 _ _ _ (by omega) ⟨i + 1, spX (pwR u v (i + 1 + 1)).1 (pwR u v (i + 1 + 1)).2, spY (pwR u v (i + 1 + 1)).1 (pwR u v (i + 1 + 1)).2, spD (pwR u v (i + 1 + 1)).1 (pwR u v (i + 1 + 1)).2, p82_1, p82_c1, p82_2, p82_c2, p82_3, p82_c3, rfl, ⟨by omega, pwB_step hB9 (fitB_ok hb72).1 (fitB_ok hb72).2, ⟨spD_ne _ _, spX_mk _ _, spY_mk _ _, spX_len (fitB_ok hb72).1 (fitB_ok hb72).2, spY_len (fitB_ok hb72).1 (fitB_ok hb72).2, spD_len (fitB_ok hb72).1 (fitB_ok hb72).2⟩, ⟨hs83.nil, hs83.cap⟩, ⟨hs84.nil, hs84.cap⟩, ⟨hs85.nil, hs85.cap⟩⟩, hA.keep _ ⟨rfl, rfl, rfl, rfl, rfl, rfl, rfl, rfl, rfl, trivial⟩, ((hS.pickR [(p82_1, words (spX (pwR u v (i + 1 + 1)).1 (pwR u v (i + 1 + 1)).2).natAbs), (p82_2, words (spY (pwR u v (i + 1 + 1)).1 (pwR u v (i + 1 + 1)).2).natAbs), (p82_3, words (spD (pwR u v (i + 1 + 1)).1 (pwR u v (i + 1 + 1)).2)), (a3, words d), (a2, words y.natAbs), (a1, words x.natAbs)] ⟨⟨2, rfl⟩, ⟨⟨1, rfl⟩, ⟨⟨0, rfl⟩, ⟨⟨13, rfl⟩, ⟨⟨14, rfl⟩, ⟨⟨15, rfl⟩, trivial⟩⟩⟩⟩⟩⟩).subL _ (.cons _ (.cons_cons _ (.cons_cons _ (.cons_cons _ .slnil)))))⟩
       · refine seq_call hA rfl rfl rfl (enters_func  rfl rfl (fun w => by kernel_rfl)) (zsettle_as ⟨(hS.rd 2 rfl), hs21.nil, hs21.cap⟩ ⟨(hS.rd 1 rfl), hs22.nil, hs22.cap⟩ ⟨(hS.rd 0 rfl), hs23.nil, hs23.cap⟩ ((set_pw (Nat.mul_ne_zero hD9 hd) hS9.1 hS9.2).trans (ratS_no (fitB_no hb72))) (by omega) (by omega) (by omega) (Nat.mul_ne_zero hD9 hd)) ?_
         rintro _ w92 ⟨p89_1, p89_c1, p89_2, p89_c2, p89_3, p89_c3, p89_4, p89_c4, rfl, hn90, hb91⟩
         replace hS := hS.call hb91
         replace hS := hS.addR hn90.s1.rd
         replace hS := hS.addR hn90.s2.rd
         replace hS := hS.addR hn90.s3.rd
         replace hS := hS.addR hn90.s4.rd
         refine ⟨_, rfl, ?_⟩
         intro a hA
         refine seq_do hA rfl rfl rfl (d_move rfl) ?_
         intro a hA
         refine seq_do (v := .agg #[.bool false, .slice p89_1 0 p89_c1, .slice p89_2 0 p89_c2, .bool false, .slice p89_3 0 p89_c3, .slice p89_4 0 p89_c4]) hA rfl rfl rfl (d_extract (vs := [.agg #[.bool false, .slice p89_1 0 p89_c1, .slice p89_2 0 p89_c2, .bool false, .slice p89_3 0 p89_c3, .slice p89_4 0 p89_c4], .int .i64 4]) rfl rfl) ?_
         intro a hA
         refine seq_do (v := .int .i64 4) hA rfl rfl rfl (d_extract (vs := [.agg #[.bool false, .slice p89_1 0 p89_c1, .slice p89_2 0 p89_c2, .bool false, .slice p89_3 0 p89_c3, .slice p89_4 0 p89_c4], .int .i64 4]) rfl rfl) ?_
         intro a hA
         refine seq_new (vs := [.bool false, .slice none 0 0, .slice none 0 0, .bool false, .slice none 0 0, .slice none 0 0]) (t := 26) hA hS rfl rfl rfl (fun g => .pointer (some ⟨g, 0, none⟩)) (d_alloc (z := .agg #[.bool false, .slice none 0 0, .slice none 0 0, .bool false, .slice none 0 0, .slice none 0 0]) (by kernel_rfl) rfl) rfl ?_
         intro g93 w94 hS a hA
         refine seq_store (us := [.bool false, .slice p89_1 0 p89_c1, .slice p89_2 0 p89_c2, .bool false, .slice p89_3 0 p89_c3, .slice p89_4 0 p89_c4]) hA hS rfl rfl (sets_store rfl rfl rfl (by kernel_rfl) hS 0 rfl rfl rfl) 0 rfl rfl rfl rfl ?_
         intro w95 hS
         refine seq_do hA rfl rfl rfl (d_assign rfl) ?_
         intro a hA
         refine seq_end ?_
         refine hK71 _ _ ?_
         refine wp_seq_k (fun K96 hK96 => ?_)
         refine wp_seq_k (fun K97 hK97 => ?_)
         refine wp_region_lit ?_
         refine seq_do hA rfl rfl rfl (d_move rfl) ?_
         intro a hA
         refine seq_do (v := .bool true) hA rfl rfl rfl (d_bin rfl rfl (fun w => by kernel_rfl)) ?_
         intro a hA
         refine seq_end ?_
         refine hK97 _ _ ?_
         refine wp_cond_true (hA.ev rfl) ?_
         refine wp_seq_k (fun K98 hK98 => ?_)
         refine wp_region_lit ?_
         refine seq_do (v := .agg #[.bool false, .slice none 0 0, .bool false, .slice none 0 0, .slice none 0 0]) hA rfl rfl rfl (d_build rfl (fun w => by kernel_rfl)) ?_
         intro a hA
         refine seq_do hA rfl rfl rfl (d_move rfl) ?_
         intro a hA
         refine seq_store (us := [.bool false, .slice none 0 0, .bool false, .slice none 0 0, .slice none 0 0]) hA hS rfl rfl (sets_store rfl rfl rfl (by kernel_rfl) hS 2 rfl rfl rfl) 2 rfl rfl rfl rfl ?_
         intro w99 hS
         refine seq_do hA rfl rfl rfl (d_assign rfl) ?_
         intro a hA
         refine seq_end ?_
         refine hK98 _ _ ?_
         refine wp_ret ?_
         refine hret _ _ ?_
         refine ends (v := .tuple #[.agg #[.bool false, .slice none 0 0, .bool false, .slice none 0 0, .slice none 0 0], .int .i64 4]) hA rfl (.cons (res_cell hS ExU_isS_55 rfl 2 rfl (cs := [.bool false, .slice none 0 0, .bool false, .slice none 0 0, .slice none 0 0]) rfl rfl) (.cons (res_tmp rfl) .nil)) rfl ?_
         exact .inr ⟨pwB_stop (k := i + 1 + 1) (by omega) (fitB_no hb72), rfl, hS.bel⟩
   · have hb29' := of_decide_eq_false hb29
     refine seq_call hA rfl rfl rfl (enters_func  rfl rfl (fun w => by kernel_rfl)) (soundB_any _ (hS.rd 2 rfl) (by omega) hb29) ?_
     rintro _ w101 ⟨rfl, hb100⟩
     replace hb100 := below_eq hb100
     replace hS := hS.call hb100
     refine ⟨_, rfl, ?_⟩
     intro a hA
     refine seq_do hA rfl rfl rfl (d_move rfl) ?_
     intro a hA
     refine seq_skip hA rfl rfl rfl ?_
     intro a hA
     refine seq_skip hA rfl rfl rfl ?_
     intro a hA
     refine seq_skip hA rfl rfl rfl ?_
     intro a hA
     refine seq_skip hA rfl rfl rfl ?_
     intro a hA
     refine seq_do (v := .bool false) hA rfl rfl rfl (d_pick rfl rfl rfl rfl) ?_
     intro a hA
     refine seq_do hA rfl rfl rfl (d_move rfl) ?_
     intro a hA
     refine seq_skip hA rfl rfl rfl ?_
     intro a hA
     refine seq_skip hA rfl rfl rfl ?_
     intro a hA
     refine seq_skip hA rfl rfl rfl ?_
     intro a hA
     refine seq_do (v := .bool false) hA rfl rfl rfl (d_pick rfl rfl rfl rfl) ?_
     intro a hA
     refine seq_end ?_
     refine hK28 _ _ ?_
     refine wp_cond_false (hA.ev rfl) ?_
     refine wp_skip ?_
     refine hK27 _ _ ?_
     refine wp_seq_k (fun K102 hK102 => ?_)
     refine wp_region_lit ?_
     refine seq_do hA rfl rfl rfl (d_loadS hS ExU_isS_55 rfl 0 rfl (cs := [.bool ((rb (X * x + -(Y * y)))), .slice p20_1 ((words (X * x + -(Y * y)).natAbs).length) p20_c1, .bool ((rb (X * y + Y * x))), .slice p20_2 ((words (X * y + Y * x).natAbs).length) p20_c2, .slice p20_3 ((words (D * d)).length) p20_c3]) rfl rfl) ?_
     intro a hA
     rcases Bool.eq_false_or_eq_true (fitB (pwR u v (i + 1 + 1))) with hb103 | hb103
     · refine seq_call hA rfl rfl rfl (enters_func  rfl rfl (fun w => by kernel_rfl)) (zsettle_as ⟨(hS.rd 2 rfl), hs21.nil, hs21.cap⟩ ⟨(hS.rd 1 rfl), hs22.nil, hs22.cap⟩ ⟨(hS.rd 0 rfl), hs23.nil, hs23.cap⟩ ((set_pw (Nat.mul_ne_zero hD9 hd) hS9.1 hS9.2).trans (ratS_fit (fitB_ok hb103).1 (fitB_ok hb103).2)) (by omega) (by omega) (by omega) (Nat.mul_ne_zero hD9 hd)) ?_
       rintro _ w107 ⟨p104_1, p104_c1, p104_2, p104_c2, p104_3, p104_c3, p104_4, p104_c4, rfl, hn105, hb106⟩
       replace hS := hS.call hb106
       replace hS := hS.addR hn105.s1.rd
       replace hS := hS.addR hn105.s2.rd
       replace hS := hS.addR hn105.s3.rd
       replace hS := hS.addR hn105.s4.rd
       refine ⟨_, rfl, ?_⟩
       intro a hA
       refine seq_do hA rfl rfl rfl (d_move rfl) ?_
       intro a hA
       refine seq_do (v := .agg #[.bool (rb (pwR u v (i + 1 + 1)).1.num), .slice p104_1 ((words (pwR u v (i + 1 + 1)).1.num.natAbs).length) p104_c1, .slice p104_2 ((words (pwR u v (i + 1 + 1)).1.den).length) p104_c2, .bool (rb (pwR u v (i + 1 + 1)).2.num), .slice p104_3 ((words (pwR u v (i + 1 + 1)).2.num.natAbs).length) p104_c3, .slice p104_4 ((words (pwR u v (i + 1 + 1)).2.den).length) p104_c4]) hA rfl rfl rfl (d_extract (vs := [.agg #[.bool (rb (pwR u v (i + 1 + 1)).1.num), .slice p104_1 ((words (pwR u v (i + 1 + 1)).1.num.natAbs).length) p104_c1, .slice p104_2 ((words (pwR u v (i + 1 + 1)).1.den).length) p104_c2, .bool (rb (pwR u v (i + 1 + 1)).2.num), .slice p104_3 ((words (pwR u v (i + 1 + 1)).2.num.natAbs).length) p104_c3, .slice p104_4 ((words (pwR u v (i + 1 + 1)).2.den).length) p104_c4], .int .i64 0]) rfl rfl) ?_
       intro a hA
       refine seq_do (v := .int .i64 0) hA rfl rfl rfl (d_extract (vs := [.agg #[.bool (rb (pwR u v (i + 1 + 1)).1.num), .slice p104_1 ((words (pwR u v (i + 1 + 1)).1.num.natAbs).length) p104_c1, .slice p104_2 ((words (pwR u v (i + 1 + 1)).1.den).length) p104_c2, .bool (rb (pwR u v (i + 1 + 1)).2.num), .slice p104_3 ((words (pwR u v (i + 1 + 1)).2.num.natAbs).length) p104_c3, .slice p104_4 ((words (pwR u v (i + 1 + 1)).2.den).length) p104_c4], .int .i64 0]) rfl rfl) ?_
       intro a hA
       refine seq_new (vs := [.bool false, .slice none 0 0, .slice none 0 0, .bool false, .slice none 0 0, .slice none 0 0]) (t := 26) hA hS rfl rfl rfl (fun g => .pointer (some ⟨g, 0, none⟩)) (d_alloc (z := .agg #[.bool false, .slice none 0 0, .slice none 0 0, .bool false, .slice none 0 0, .slice none 0 0]) (by kernel_rfl) rfl) rfl ?_
       intro g108 w109 hS a hA
       refine seq_store (us := [.bool (rb (pwR u v (i + 1 + 1)).1.num), .slice p104_1 ((words (pwR u v (i + 1 + 1)).1.num.natAbs).length) p104_c1, .slice p104_2 ((words (pwR u v (i + 1 + 1)).1.den).length) p104_c2, .bool (rb (pwR u v (i + 1 + 1)).2.num), .slice p104_3 ((words (pwR u v (i + 1 + 1)).2.num.natAbs).length) p104_c3, .slice p104_4 ((words (pwR u v (i + 1 + 1)).2.den).length) p104_c4]) hA hS rfl rfl (sets_store rfl rfl rfl (by kernel_rfl) hS 0 rfl rfl rfl) 0 rfl rfl rfl rfl ?_
       intro w110 hS
       refine seq_do hA rfl rfl rfl (d_assign rfl) ?_
       intro a hA
       refine seq_end ?_
       refine hK102 _ _ ?_
       refine wp_seq_k (fun K111 hK111 => ?_)
       refine wp_seq_k (fun K112 hK112 => ?_)
       refine wp_region_lit ?_
       refine seq_do hA rfl rfl rfl (d_move rfl) ?_
       intro a hA
       refine seq_do (v := .bool false) hA rfl rfl rfl (d_bin rfl rfl (fun w => by kernel_rfl)) ?_
       intro a hA
       refine seq_end ?_
       refine hK112 _ _ ?_
       refine wp_cond_false (hA.ev rfl) ?_
       refine wp_skip ?_
       refine hK111 _ _ ?_
       refine wp_region_lit ?_
       refine seq_do hA rfl rfl rfl (d_loadS hS ExU_isS_26 rfl 0 rfl (cs := [.bool (rb (pwR u v (i + 1 + 1)).1.num), .slice p104_1 ((words (pwR u v (i + 1 + 1)).1.num.natAbs).length) p104_c1, .slice p104_2 ((words (pwR u v (i + 1 + 1)).1.den).length) p104_c2, .bool (rb (pwR u v (i + 1 + 1)).2.num), .slice p104_3 ((words (pwR u v (i + 1 + 1)).2.num.natAbs).length) p104_c3, .slice p104_4 ((words (pwR u v (i + 1 + 1)).2.den).length) p104_c4]) rfl rfl) ?_
       intro a hA
       refine seq_call hA rfl rfl rfl (enters_func  rfl rfl (fun w => by kernel_rfl)) (zspread_any (u := (pwR u v (i + 1 + 1)).1) (v := (pwR u v (i + 1 + 1)).2) (show Nm _ (Q6.rat (pwR u v (i + 1 + 1)).1 (pwR u v (i + 1 + 1)).2) p104_1 p104_c1 p104_2 p104_c2 p104_3 p104_c3 p104_4 p104_c4 from ⟨⟨(hS.rd 3 rfl), hn105.s1.nil, hn105.s1.cap⟩, ⟨(hS.rd 2 rfl), hn105.s2.nil, hn105.s2.cap⟩, ⟨(hS.rd 1 rfl), hn105.s3.nil, hn105.s3.cap⟩, ⟨(hS.rd 0 rfl), hn105.s4.nil, hn105.s4.cap⟩⟩) (fitB_ok hb103).1 (fitB_ok hb103).2) ?_
       rintro _ w118 ⟨p113_1, p113_c1, p113_2, p113_c2, p113_3, p113_c3, rfl, hs114, hs115, hs116, hb117⟩
       replace hS := hS.call hb117
       replace hS := hS.addR hs114.rd
       replace hS := hS.addR hs115.rd
       replace hS := hS.addR hs116.rd
       refine ⟨_, rfl, ?_⟩
       intro a hA
       refine seq_store (us := [.bool ((rb (spX (pwR u v (i + 1 + 1)).1 (pwR u v (i + 1 + 1)).2))), .slice p113_1 ((words (spX (pwR u v (i + 1 + 1)).1 (pwR u v (i + 1 + 1)).2).natAbs).length) p113_c1, .bool ((rb (spY (pwR u v (i + 1 + 1)).1 (pwR u v (i + 1 + 1)).2))), .slice p113_2 ((words (spY (pwR u v (i + 1 + 1)).1 (pwR u v (i + 1 + 1)).2).natAbs).length) p113_c2, .slice p113_3 ((words (spD (pwR u v (i + 1 + 1)).1 (pwR u v (i + 1 + 1)).2)).length) p113_c3]) hA hS rfl rfl (sets_store rfl rfl rfl (by kernel_rfl) hS 1 rfl rfl rfl) 1 rfl rfl rfl rfl ?_
       intro w119 hS
       refine seq_end ?_
       refine hK18 _ _ ?_
       refine wp_region_lit ?_
       refine seq_do (v := .int .i64 (((i + 1 : Nat) : Int))) hA rfl rfl rfl (d_bin rfl rfl (fun w => (bin_add (i64In (by omega) (by omega)) w).trans (by rw [show (((i : Nat) : Int) + 1 : Int) = ((i + 1 : Nat) : Int) from by omega]))) ?_
       intro a hA
       refine seq_do hA rfl rfl rfl (d_move rfl) ?_
       intro a hA
       refine seq_end ?_
       refine hK13 _ _ _ (by omega) ⟨i + 1, spX (pwR u v (i + 1 + 1)).1 (pwR u v (i + 1 + 1)).2, spY (pwR u v (i + 1 + 1)).1 (pwR u v (i + 1 + 1)).2, spD (pwR u v (i + 1 + 1)).1 (pwR u v (i + 1 + 1)).2, p113_1, p113_c1, p113_2, p113_c2, p113_3, p113_c3, rfl, ⟨by omega, pwB_step hB9 (fitB_ok hb103).1 (fitB_ok hb103).2, ⟨spD_ne _ _, spX_mk _ _, spY_mk _ _, spX_len (fitB_ok hb103).1 (fitB_ok hb103).2, spY_len (fitB_ok hb103).1 (fitB_ok hb103).2, spD_len (fitB_ok hb103).1 (fitB_ok hb103).2⟩, ⟨hs114.nil, hs114.cap⟩, ⟨hs115.nil, hs115.cap⟩, ⟨hs116.nil, hs116.cap⟩⟩, hA.keep _ ⟨rfl, rfl, rfl, rfl, rfl, rfl, rfl, rfl, rfl, trivial⟩, ((hS.pickR [(p113_1, words (spX (pwR u v (i + 1 + 1)).1 (pwR u v (i + 1 + 1)).2).natAbs), (p113_2, words (spY (pwR u v (i + 1 + 1)).1 (pwR u v (i + 1 + 1)).2).natAbs), (p113_3, words (spD (pwR u v (i + 1 + 1)).1 (pwR u v (i + 1 + 1)).2)), (a3, words d), (a2, words y.natAbs), (a1, words x.natAbs)] ⟨⟨2, rfl⟩, ⟨⟨1, rfl⟩, ⟨⟨0, rfl⟩, ⟨⟨13, rfl⟩, ⟨⟨14, rfl⟩, ⟨⟨15, rfl⟩, trivial⟩⟩⟩⟩⟩⟩).subL _ (.cons _ (.cons_cons _ (.cons_cons _ (.cons_cons _ .slnil)))))⟩
     · refine seq_call hA rfl rfl rfl (enters_func  rfl rfl (fun w => by kernel_rfl)) (zsettle_as ⟨(hS.rd 2 rfl), hs21.nil, hs21.cap⟩ ⟨(hS.rd 1 rfl), hs22.nil, hs22.cap⟩ ⟨(hS.rd 0 rfl), hs23.nil, hs23.cap⟩ ((set_pw (Nat.mul_ne_zero hD9 hd) hS9.1 hS9.2).trans (ratS_no (fitB_no hb103))) (by omega) (by omega) (by omega) (Nat.mul_ne_zero hD9 hd)) ?_
       rintro _ w123 ⟨p120_1, p120_c1, p120_2, p120_c2, p120_3, p120_c3, p120_4, p120_c4, rfl, hn121, hb122⟩
       replace hS := hS.call hb122
       replace hS := hS.addR hn121.s1.rd
       replace hS := hS.addR hn121.s2.rd
       replace hS := hS.addR hn121.s3.rd
       replace hS := hS.addR hn121.s4.rd
       refine ⟨_, rfl, ?_⟩
       intro a hA
       refine seq_do hA rfl rfl rfl (d_move rfl) ?_
       intro a hA
       refine seq_do (v := .agg #[.bool false, .slice p120_1 0 p120_c1, .slice p120_2 0 p120_c2, .bool false, .slice p120_3 0 p120_c3, .slice p120_4 0 p120_c4]) hA rfl rfl rfl (d_extract (vs := [.agg #[.bool false, .slice p120_1 0 p120_c1, .slice p120_2 0 p120_c2, .bool false, .slice p120_3 0 p120_c3, .slice p120_4 0 p120_c4], .int .i64 4]) rfl rfl) ?_
       intro a hA
       refine seq_do (v := .int .i64 4) hA rfl rfl rfl (d_extract (vs := [.agg #[.bool false, .slice p120_1 0 p120_c1, .slice p120_2 0 p120_c2, .bool false, .slice p120_3 0 p120_c3, .slice p120_4 0 p120_c4], .int .i64 4]) rfl rfl) ?_
       intro a hA
       refine seq_new (vs := [.bool false, .slice none 0 0, .slice none 0 0, .bool false, .slice none 0 0, .slice none 0 0]) (t := 26) hA hS rfl rfl rfl (fun g => .pointer (some ⟨g, 0, none⟩)) (d_alloc (z := .agg #[.bool false, .slice none 0 0, .slice none 0 0, .bool false, .slice none 0 0, .slice none 0 0]) (by kernel_rfl) rfl) rfl ?_
       intro g124 w125 hS a hA
       refine seq_store (us := [.bool false, .slice p120_1 0 p120_c1, .slice p120_2 0 p120_c2, .bool false, .slice p120_3 0 p120_c3, .slice p120_4 0 p120_c4]) hA hS rfl rfl (sets_store rfl rfl rfl (by kernel_rfl) hS 0 rfl rfl rfl) 0 rfl rfl rfl rfl ?_
       intro w126 hS
       refine seq_do hA rfl rfl rfl (d_assign rfl) ?_
       intro a hA
       refine seq_end ?_
       refine hK102 _ _ ?_
       refine wp_seq_k (fun K127 hK127 => ?_)
       refine wp_seq_k (fun K128 hK128 => ?_)
       refine wp_region_lit ?_
       refine seq_do hA rfl rfl rfl (d_move rfl) ?_
       intro a hA
       refine seq_do (v := .bool true) hA rfl rfl rfl (d_bin rfl rfl (fun w => by kernel_rfl)) ?_
       intro a hA
       refine seq_end ?_
       refine hK128 _ _ ?_
       refine wp_cond_true (hA.ev rfl) ?_
       refine wp_seq_k (fun K129 hK129 => ?_)
       refine wp_region_lit ?_
       refine seq_do (v := .agg #[.bool false, .slice none 0 0, .bool false, .slice none 0 0, .slice none 0 0]) hA rfl rfl rfl (d_build rfl (fun w => by kernel_rfl)) ?_
       intro a hA
       refine seq_do hA rfl rfl rfl (d_move rfl) ?_
       intro a hA
       refine seq_store (us := [.bool false, .slice none 0 0, .bool false, .slice none 0 0, .slice none 0 0]) hA hS rfl rfl (sets_store rfl rfl rfl (by kernel_rfl) hS 2 rfl rfl rfl) 2 rfl rfl rfl rfl ?_
       intro w130 hS
       refine seq_do hA rfl rfl rfl (d_assign rfl) ?_
       intro a hA
       refine seq_end ?_
       refine hK129 _ _ ?_
       refine wp_ret ?_
       refine hret _ _ ?_
       refine ends (v := .tuple #[.agg #[.bool false, .slice none 0 0, .bool false, .slice none 0 0, .slice none 0 0], .int .i64 4]) hA rfl (.cons (res_cell hS ExU_isS_55 rfl 2 rfl (cs := [.bool false, .slice none 0 0, .bool false, .slice none 0 0, .slice none 0 0]) rfl rfl) (.cons (res_tmp rfl) .nil)) rfl ?_
       exact .inr ⟨pwB_stop (k := i + 1 + 1) (by omega) (fitB_no hb103), rfl, hS.bel⟩
 · have hb16' := of_decide_eq_false hb16
   refine seq_do (v := .bool false) hA rfl rfl rfl (d_bin rfl rfl (fun w => (bin_lss w).trans (by rw [hb16]))) ?_
   intro a hA
   refine seq_end ?_
   refine hK15 _ _ ?_
   refine wp_seq_k (fun K131 hK131 => ?_)
   refine wp_cond_false (hA.ev rfl) ?_
   refine wp_exit ?_
   refine hK10 _ _ ?_
   refine wp_seq_k (fun K132 hK132 => ?_)
   refine wp_region_lit ?_
   refine seq_do hA rfl rfl rfl (d_loadS hS ExU_isS_55 rfl 0 rfl (cs := [.bool ((rb X)), .slice po1 ((words X.natAbs).length) poc1, .bool ((rb Y)), .slice po2 ((words Y.natAbs).length) poc2, .slice po3 ((words D).length) poc3]) rfl rfl) ?_
   intro a hA
   refine seq_store (us := [.bool ((rb X)), .slice po1 ((words X.natAbs).length) poc1, .bool ((rb Y)), .slice po2 ((words Y.natAbs).length) poc2, .slice po3 ((words D).length) poc3]) hA hS rfl rfl (sets_store rfl rfl rfl (by kernel_rfl) hS 1 rfl rfl rfl) 1 rfl rfl rfl rfl ?_
   intro w133 hS
   refine seq_do hA rfl rfl rfl (d_assign rfl) ?_
   intro a hA
   refine seq_end ?_
   refine hK132 _ _ ?_
   refine wp_ret ?_
   refine hret _ _ ?_
   refine ends (v := .tuple #[.agg #[.bool ((rb X)), .slice po1 ((words X.natAbs).length) poc1, .bool ((rb Y)), .slice po2 ((words Y.natAbs).length) poc2, .slice po3 ((words D).length) poc3], .int .i64 0]) hA rfl (.cons (res_cell hS ExU_isS_55 rfl 1 rfl (cs := [.bool ((rb X)), .slice po1 ((words X.natAbs).length) poc1, .bool ((rb Y)), .slice po2 ((words Y.natAbs).length) poc2, .slice po3 ((words D).length) poc3]) rfl rfl) (.cons (res_tmp rfl) .nil)) rfl ?_
   obtain rfl : n = i + 1 := by omega
   exact .inl ⟨hB9, X, Y, D, ⟨hD9, hX9, hY9, lX9, lY9, lD9⟩, po1, poc1, po2, poc2, po3, poc3, rfl, ⟨(hS.rd 0 rfl), kn1.1, kn1.2⟩, ⟨(hS.rd 1 rfl), kn2.1, kn2.2⟩, ⟨(hS.rd 2 rfl), kn3.1, kn3.2⟩, hS.bel⟩
end Go.Proofs.YthlkbnhbmfmchaaGreat
namespace Go.Proofs.YthlkbnhbmfmchaaGreat
open Go.RowKit
set_option linter.unusedVariables false
set_option linter.unusedSimpArgs false
set_option maxRecDepth 100000
theorem ExV_isS_26 : IsS Tryz.prog 26 6 := ⟨⟨_, Tryz.underlying26⟩, by kernel_rfl⟩
theorem ExV_isS_55 : IsS Tryz.prog 55 5 := ⟨⟨_, Tryz.underlying55⟩, by kernel_rfl⟩
theorem zpowerT_any {w : World} {x y : Int} {d n : Nat} {a1 a2 a3 : Option Addr} {ac1 ac2 ac3 : Nat} (ha1 : Sc w a1 ac1 (words x.natAbs)) (ha2 : Sc w a2 ac2 (words y.natAbs)) (ha3 : Sc w a3 ac3 (words d)) (l1 : (words x.natAbs).length ≤ 1024) (l2 : (words y.natAbs).length ≤ 1024) (l3 : (words d).length ≤ 1024) (hd : d ≠ 0) {u v : Rat} (hu : mkRat x d = u) (hv : mkRat y d = v) (fu : fitR u) (fv : fitR v) (hn1 : 1 ≤ n) (hn2 : n ≤ 1024) (hB : pwB u v n = true) : Calls Tryz.prog 71 #[.agg #[.bool (rb x), .slice a1 (words x.natAbs).length ac1, .bool (rb y), .slice a2 (words y.natAbs).length ac2, .slice a3 (words d).length ac3], .int .i64 ((n : Nat) : Int)] w (fun e w' => ∃ X Y D, PwOut u v n X Y D ∧ ∃ o1 c1 o2 c2 o3 c3, e = .returned (.tuple #[.agg #[.bool (rb X), .slice o1 (words X.natAbs).length c1, .bool (rb Y), .slice o2 (words Y.natAbs).length c2, .slice o3 (words D).length c3], .int .i64 0]) ∧ Sc w' o1 c1 (words X.natAbs) ∧ Sc w' o2 c2 (words Y.natAbs) ∧ Sc w' o3 c3 (words D) ∧ Below w.heap.size w w') :=
  (zpower_any ha1 ha2 ha3 l1 l2 l3 hd hu hv fu fv hn1 hn2).mono fun e w' h => h.elim (fun k => k.2) (fun k => absurd (hB.symm.trans k.1) (by decide))
theorem zpowerF_any {w : World} {x y : Int} {d n : Nat} {a1 a2 a3 : Option Addr} {ac1 ac2 ac3 : Nat} (ha1 : Sc w a1 ac1 (words x.natAbs)) (ha2 : Sc w a2 ac2 (words y.natAbs)) (ha3 : Sc w a3 ac3 (words d)) (l1 : (words x.natAbs).length ≤ 1024) (l2 : (words y.natAbs).length ≤ 1024) (l3 : (words d).length ≤ 1024) (hd : d ≠ 0) {u v : Rat} (hu : mkRat x d = u) (hv : mkRat y d = v) (fu : fitR u) (fv : fitR v) (hn1 : 1 ≤ n) (hn2 : n ≤ 1024) (hB : pwB u v n = false) : Calls Tryz.prog 71 #[.agg #[.bool (rb x), .slice a1 (words x.natAbs).length ac1, .bool (rb y), .slice a2 (words y.natAbs).length ac2, .slice a3 (words d).length ac3], .int .i64 ((n : Nat) : Int)] w (fun e w' => e = .returned (.tuple #[.agg #[.bool false, .slice none 0 0, .bool false, .slice none 0 0, .slice none 0 0], .int .i64 4]) ∧ Below w.heap.size w w') :=
  (zpower_any ha1 ha2 ha3 l1 l2 l3 hd hu hv fu fv hn1 hn2).mono fun e w' h => h.elim (fun k => absurd (hB.symm.trans k.1) (by decide)) (fun k => k.2)
theorem exptE_any {w : World} {q : Q6} {a1 a2 a3 a4 : Option Addr} {ac1 ac2 ac3 ac4 : Nat} (ha : Nm w q a1 ac1 a2 ac2 a3 ac3 a4 ac4) (hl : LenQ q) {n : Int} (hs : soundQ q = false) : Calls Tryz.prog 30 #[numV q a1 ac1 a2 ac2 a3 ac3 a4 ac4, .int .i64 n] w (AnsN w (exptQ q n)) := by
 have hS : St w w [] [(a4, q.q2), (a3, q.t2), (a2, q.q1), (a1, q.t1)] [] := ((((St.start w).addR ha.s1.rd).addR ha.s2.rd).addR ha.s3.rd).addR ha.s4.rd
 refine walk_of (l := [(0, .agg #[.bool q.b1, .slice a1 q.t1.length ac1, .slice a2 q.q1.length ac2, .bool q.b2, .slice a3 q.t2.length ac3, .slice a4 q.q2.length ac4]), (1, .int .i64 n)]) Tryz.func30 rfl Tryz.ntmps30 rfl rfl ?_
 intro Q hret hnorm hP a hA
 refine wp_seq_k (fun K1 hK1 => ?_)
 refine wp_region_lit ?_
 refine seq_new hA hS rfl rfl rfl (fun g => .pointer (some ⟨g, 0, none⟩)) (d_box rfl rfl) rfl ?_
 intro g2 w3 hS a hA
 refine seq_new (vs := [.bool false, .slice none 0 0, .slice none 0 0, .bool false, .slice none 0 0, .slice none 0 0]) (t := 26) hA hS rfl rfl rfl (fun g => .pointer (some ⟨g, 0, none⟩)) (d_alloc (z := .agg #[.bool false, .slice none 0 0, .slice none 0 0, .bool false, .slice none 0 0, .slice none 0 0]) (by kernel_rfl) rfl) rfl ?_
 intro g4 w5 hS a hA
 refine seq_do hA rfl rfl rfl (d_assign rfl) ?_
 intro a hA
 refine seq_end ?_
 refine hK1 _ _ ?_
 refine wp_seq_k (fun K6 hK6 => ?_)
 refine wp_block ?_
 refine wp_seq_k (fun K7 hK7 => ?_)
 refine wp_region_lit ?_
 refine seq_do hA rfl rfl rfl (d_loadS hS ExV_isS_26 rfl 1 rfl (cs := [.bool q.b1, .slice a1 q.t1.length ac1, .slice a2 q.q1.length ac2, .bool q.b2, .slice a3 q.t2.length ac3, .slice a4 q.q2.length ac4]) rfl rfl) ?_
 intro a hA
 refine seq_call hA rfl rfl rfl (enters_func  rfl rfl (fun w => by kernel_rfl)) (soundQ_any (show Nm _ _ a1 ac1 a2 ac2 a3 ac3 a4 ac4 from ⟨⟨(hS.rd 3 rfl), ha.s1.nil, ha.s1.cap⟩, ⟨(hS.rd 2 rfl), ha.s2.nil, ha.s2.cap⟩, ⟨(hS.rd 1 rfl), ha.s3.nil, ha.s3.cap⟩, ⟨(hS.rd 0 rfl), ha.s4.nil, ha.s4.cap⟩⟩) hl hs) ?_
 rintro _ w9 ⟨rfl, hb8⟩
 replace hS := hS.call hb8
 refine ⟨_, rfl, ?_⟩
 intro a hA
 refine seq_do (v := .bool true) hA rfl rfl rfl (d_un rfl un_not) ?_
 intro a hA
 refine seq_do hA rfl rfl rfl (d_assign rfl) ?_
 intro a hA
 refine seq_end ?_
 refine hK7 _ _ ?_
 refine wp_cond_true (hA.ev rfl) ?_
 refine wp_seq_k (fun K10 hK10 => ?_)
 refine wp_region_lit ?_
 refine seq_do (v := .agg #[.bool false, .slice none 0 0, .slice none 0 0, .bool false, .slice none 0 0, .slice none 0 0]) hA rfl rfl rfl (d_build rfl (fun w => by kernel_rfl)) ?_
 intro a hA
 refine seq_store (us := [.bool false, .slice none 0 0, .slice none 0 0, .bool false, .slice none 0 0, .slice none 0 0]) hA hS rfl rfl (sets_store rfl rfl rfl (by kernel_rfl) hS 0 rfl rfl rfl) 0 rfl rfl rfl rfl ?_
 intro w11 hS
 refine seq_do hA rfl rfl rfl (d_assign rfl) ?_
 intro a hA
 refine seq_end ?_
 refine hK10 _ _ ?_
 refine wp_ret ?_
 refine hret _ _ ?_
 refine ends (v := .tuple #[.agg #[.bool false, .slice none 0 0, .slice none 0 0, .bool false, .slice none 0 0, .slice none 0 0], .int .i64 2]) hA rfl (.cons (res_cell hS ExV_isS_26 rfl 0 rfl (cs := [.bool false, .slice none 0 0, .slice none 0 0, .bool false, .slice none 0 0, .slice none 0 0]) rfl rfl) (.cons (res_tmp rfl) .nil)) rfl ?_
 rw [exptQ_bad hs]
 exact ⟨none, 0, none, 0, none, 0, none, 0, rfl, ⟨(Sc.none _), (Sc.none _), (Sc.none _), (Sc.none _)⟩, hS.bel⟩
theorem exptA1_any {w : World} {u v : Rat} {a1 a2 a3 a4 : Option Addr} {ac1 ac2 ac3 ac4 : Nat} (ha : Nm w (Q6.rat u v) a1 ac1 a2 ac2 a3 ac3 a4 ac4) (hu : fitR u) (hv : fitR v) {n : Int} (hn : n < -1024) : Calls Tryz.prog 30 #[numV (Q6.rat u v) a1 ac1 a2 ac2 a3 ac3 a4 ac4, .int .i64 n] w (AnsN w (exptQ (Q6.rat u v) n)) := by
 have hS : St w w [] [(a4, words v.den), (a3, words v.num.natAbs), (a2, words u.den), (a1, words u.num.natAbs)] [] := ((((St.start w).addR ha.s1.rd).addR ha.s2.rd).addR ha.s3.rd).addR ha.s4.rd
 refine walk_of (l := [(0, .agg #[.bool (rb u.num), .slice a1 ((words u.num.natAbs).length) ac1, .slice a2 ((words u.den).length) ac2, .bool (rb v.num), .slice a3 ((words v.num.natAbs).length) ac3, .slice a4 ((words v.den).length) ac4]), (1, .int .i64 n)]) Tryz.func30 rfl Tryz.ntmps30 rfl rfl ?_
 intro Q hret hnorm hP a hA
 refine wp_seq_k (fun K1 hK1 => ?_)
 refine wp_region_lit ?_
 refine seq_new hA hS rfl rfl rfl (fun g => .pointer (some ⟨g, 0, none⟩)) (d_box rfl rfl) rfl ?_
 intro g2 w3 hS a hA
 refine seq_new (vs := [.bool false, .slice none 0 0, .slice none 0 0, .bool false, .slice none 0 0, .slice none 0 0]) (t := 26) hA hS rfl rfl rfl (fun g => .pointer (some ⟨g, 0, none⟩)) (d_alloc (z := .agg #[.bool false, .slice none 0 0, .slice none 0 0, .bool false, .slice none 0 0, .slice none 0 0]) (by kernel_rfl) rfl) rfl ?_
 intro g4 w5 hS a hA
 refine seq_do hA rfl rfl rfl (d_assign rfl) ?_
 intro a hA
 refine seq_end ?_
 refine hK1 _ _ ?_
 refine wp_seq_k (fun K6 hK6 => ?_)
 refine wp_block ?_
 refine wp_seq_k (fun K7 hK7 => ?_)
 refine wp_region_lit ?_
 refine seq_do hA rfl rfl rfl (d_loadS hS ExV_isS_26 rfl 1 rfl (cs := [.bool (rb u.num), .slice a1 ((words u.num.natAbs).length) ac1, .slice a2 ((words u.den).length) ac2, .bool (rb v.num), .slice a3 ((words v.num.natAbs).length) ac3, .slice a4 ((words v.den).length) ac4]) rfl rfl) ?_
 intro a hA
 refine seq_call hA rfl rfl rfl (enters_func  rfl rfl (fun w => by kernel_rfl)) (soundQ_any (show Nm _ (Q6.rat u v) a1 ac1 a2 ac2 a3 ac3 a4 ac4 from ⟨⟨(hS.rd 3 rfl), ha.s1.nil, ha.s1.cap⟩, ⟨(hS.rd 2 rfl), ha.s2.nil, ha.s2.cap⟩, ⟨(hS.rd 1 rfl), ha.s3.nil, ha.s3.cap⟩, ⟨(hS.rd 0 rfl), ha.s4.nil, ha.s4.cap⟩⟩) (lenQ_rat hu hv) (soundQ_rat hu hv)) ?_
 rintro _ w9 ⟨rfl, hb8⟩
 replace hS := hS.call hb8
 refine ⟨_, rfl, ?_⟩
 intro a hA
 refine seq_do (v := .bool false) hA rfl rfl rfl (d_un rfl un_not) ?_
 intro a hA
 refine seq_do hA rfl rfl rfl (d_assign rfl) ?_
 intro a hA
 refine seq_end ?_
 refine hK7 _ _ ?_
 refine wp_cond_false (hA.ev rfl) ?_
 refine wp_seq_k (fun K10 hK10 => ?_)
 refine wp_region_lit ?_
 refine seq_do hA rfl rfl rfl (d_move rfl) ?_
 intro a hA
 refine seq_do (v := .bool true) hA rfl rfl rfl (d_bin rfl rfl (fun w => (bin_lss w).trans (by rw [show (decide (n < -1024)) = true from (decide_eq_true (by omega))]))) ?_
 intro a hA
 refine seq_do hA rfl rfl rfl (d_move rfl) ?_
 intro a hA
 refine seq_skip hA rfl rfl rfl ?_
 intro a hA
 refine seq_skip hA rfl rfl rfl ?_
 intro a hA
 refine seq_do (v := .bool true) hA rfl rfl rfl (d_pick rfl rfl rfl rfl) ?_
 intro a hA
 refine seq_do hA rfl rfl rfl (d_assign rfl) ?_
 intro a hA
 refine seq_end ?_
 refine hK10 _ _ ?_
 refine wp_cond_true (hA.ev rfl) ?_
 refine wp_seq_k (fun K11 hK11 => ?_)
 refine wp_region_lit ?_
 refine seq_do (v := .agg #[.bool false, .slice none 0 0, .slice none 0 0, .bool false, .slice none 0 0, .slice none 0 0]) hA rfl rfl rfl (d_build rfl (fun w => by kernel_rfl)) ?_
 intro a hA
 refine seq_store (us := [.bool false, .slice none 0 0, .slice none 0 0, .bool false, .slice none 0 0, .slice none 0 0]) hA hS rfl rfl (sets_store rfl rfl rfl (by kernel_rfl) hS 0 rfl rfl rfl) 0 rfl rfl rfl rfl ?_
 intro w12 hS
 refine seq_do hA rfl rfl rfl (d_assign rfl) ?_
 intro a hA
 refine seq_end ?_
 refine hK11 _ _ ?_
 refine wp_ret ?_
 refine hret _ _ ?_
 refine ends (v := .tuple #[.agg #[.bool false, .slice none 0 0, .slice none 0 0, .bool false, .slice none 0 0, .slice none 0 0], .int .i64 1]) hA rfl (.cons (res_cell hS ExV_isS_26 rfl 0 rfl (cs := [.bool false, .slice none 0 0, .slice none 0 0, .bool false, .slice none 0 0, .slice none 0 0]) rfl rfl) (.cons (res_tmp rfl) .nil)) rfl ?_
 rw [exptQ_arg hu hv (.inl hn)]
 exact ⟨none, 0, none, 0, none, 0, none, 0, rfl, ⟨(Sc.none _), (Sc.none _), (Sc.none _), (Sc.none _)⟩, hS.bel⟩
theorem exptA2_any {w : World} {u v : Rat} {a1 a2 a3 a4 : Option Addr} {ac1 ac2 ac3 ac4 : Nat} (ha : Nm w (Q6.rat u v) a1 ac1 a2 ac2 a3 ac3 a4 ac4) (hu : fitR u) (hv : fitR v) {n : Int} (hn : 1024 < n) : Calls Tryz.prog 30 #[numV (Q6.rat u v) a1 ac1 a2 ac2 a3 ac3 a4 ac4, .int .i64 n] w (AnsN w (exptQ (Q6.rat u v) n)) := by
 have hS : St w w [] [(a4, words v.den), (a3, words v.num.natAbs), (a2, words u.den), (a1, words u.num.natAbs)] [] := ((((St.start w).addR ha.s1.rd).addR ha.s2.rd).addR ha.s3.rd).addR ha.s4.rd
 refine walk_of (l := [(0, .agg #[.bool (rb u.num), .slice a1 ((words u.num.natAbs).length) ac1, .slice a2 ((words u.den).length) ac2, .bool (rb v.num), .slice a3 ((words v.num.natAbs).length) ac3, .slice a4 ((words v.den).length) ac4]), (1, .int .i64 n)]) Tryz.func30 rfl Tryz.ntmps30 rfl rfl ?_
 intro Q hret hnorm hP a hA
 refine wp_seq_k (fun K1 hK1 => ?_)
 refine wp_region_lit ?_
 refine seq_new hA hS rfl rfl rfl (fun g => .pointer (some ⟨g, 0, none⟩)) (d_box rfl rfl) rfl ?_
 intro g2 w3 hS a hA
 refine seq_new (vs := [.bool false, .slice none 0 0, .slice none 0 0, .bool false, .slice none 0 0, .slice none 0 0]) (t := 26) hA hS rfl rfl rfl (fun g => .pointer (some ⟨g, 0, none⟩)) (d_alloc (z := .agg #[.bool false, .slice none 0 0, .slice none 0 0, .bool false, .slice none 0 0, .slice none 0 0]) (by kernel_rfl) rfl) rfl ?_
 intro g4 w5 hS a hA
 refine seq_do hA rfl rfl rfl (d_assign rfl) ?_
 intro a hA
 refine seq_end ?_
 refine hK1 _ _ ?_
 refine wp_seq_k (fun K6 hK6 => ?_)
 refine wp_block ?_
 refine wp_seq_k (fun K7 hK7 => ?_)
 refine wp_region_lit ?_
 refine seq_do hA rfl rfl rfl (d_loadS hS ExV_isS_26 rfl 1 rfl (cs := [.bool (rb u.num), .slice a1 ((words u.num.natAbs).length) ac1, .slice a2 ((words u.den).length) ac2, .bool (rb v.num), .slice a3 ((words v.num.natAbs).length) ac3, .slice a4 ((words v.den).length) ac4]) rfl rfl) ?_
 intro a hA
 refine seq_call hA rfl rfl rfl (enters_func  rfl rfl (fun w => by kernel_rfl)) (soundQ_any (show Nm _ (Q6.rat u v) a1 ac1 a2 ac2 a3 ac3 a4 ac4 from ⟨⟨(hS.rd 3 rfl), ha.s1.nil, ha.s1.cap⟩, ⟨(hS.rd 2 rfl), ha.s2.nil, ha.s2.cap⟩, ⟨(hS.rd 1 rfl), ha.s3.nil, ha.s3.cap⟩, ⟨(hS.rd 0 rfl), ha.s4.nil, ha.s4.cap⟩⟩) (lenQ_rat hu hv) (soundQ_rat hu hv)) ?_
 rintro _ w9 ⟨rfl, hb8⟩
 replace hS := hS.call hb8
 refine ⟨_, rfl, ?_⟩
 intro a hA
 refine seq_do (v := .bool false) hA rfl rfl rfl (d_un rfl un_not) ?_
 intro a hA
 refine seq_do hA rfl rfl rfl (d_assign rfl) ?_
 intro a hA
 refine seq_end ?_
 refine hK7 _ _ ?_
 refine wp_cond_false (hA.ev rfl) ?_
 refine wp_seq_k (fun K10 hK10 => ?_)
 refine wp_region_lit ?_
 refine seq_do hA rfl rfl rfl (d_move rfl) ?_
 intro a hA
 refine seq_do (v := .bool false) hA rfl rfl rfl (d_bin rfl rfl (fun w => (bin_lss w).trans (by rw [show (decide (n < -1024)) = false from (decide_eq_false (by omega))]))) ?_
 intro a hA
 refine seq_do hA rfl rfl rfl (d_move rfl) ?_
 intro a hA
 refine seq_do hA rfl rfl rfl (d_move rfl) ?_
 intro a hA
 refine seq_do (v := .bool true) hA rfl rfl rfl (d_bin rfl rfl (fun w => (bin_gtr w).trans (by rw [show (decide (1024 < n)) = true from (decide_eq_true (by omega))]))) ?_
 intro a hA
 refine seq_do (v := .bool true) hA rfl rfl rfl (d_pick rfl rfl rfl rfl) ?_
 intro a hA
 refine seq_do hA rfl rfl rfl (d_assign rfl) ?_
 intro a hA
 refine seq_end ?_
 refine hK10 _ _ ?_
 refine wp_cond_true (hA.ev rfl) ?_
 refine wp_seq_k (fun K11 hK11 => ?_)
 refine wp_region_lit ?_
 refine seq_do (v := .agg #[.bool false, .slice none 0 0, .slice none 0 0, .bool false, .slice none 0 0, .slice none 0 0]) hA rfl rfl rfl (d_build rfl (fun w => by kernel_rfl)) ?_
 intro a hA
 refine seq_store (us := [.bool false, .slice none 0 0, .slice none 0 0, .bool false, .slice none 0 0, .slice none 0 0]) hA hS rfl rfl (sets_store rfl rfl rfl (by kernel_rfl) hS 0 rfl rfl rfl) 0 rfl rfl rfl rfl ?_
 intro w12 hS
 refine seq_do hA rfl rfl rfl (d_assign rfl) ?_
 intro a hA
 refine seq_end ?_
 refine hK11 _ _ ?_
 refine wp_ret ?_
 refine hret _ _ ?_
 refine ends (v := .tuple #[.agg #[.bool false, .slice none 0 0, .slice none 0 0, .bool false, .slice none 0 0, .slice none 0 0], .int .i64 1]) hA rfl (.cons (res_cell hS ExV_isS_26 rfl 0 rfl (cs := [.bool false, .slice none 0 0, .slice none 0 0, .bool false, .slice none 0 0, .slice none 0 0]) rfl rfl) (.cons (res_tmp rfl) .nil)) rfl ?_
 rw [exptQ_arg hu hv (.inr hn)]
 exact ⟨none, 0, none, 0, none, 0, none, 0, rfl, ⟨(Sc.none _), (Sc.none _), (Sc.none _), (Sc.none _)⟩, hS.bel⟩
theorem expt0_any {w : World} {u v : Rat} {a1 a2 a3 a4 : Option Addr} {ac1 ac2 ac3 ac4 : Nat} (ha : Nm w (Q6.rat u v) a1 ac1 a2 ac2 a3 ac3 a4 ac4) (hu : fitR u) (hv : fitR v)  : Calls Tryz.prog 30 #[numV (Q6.rat u v) a1 ac1 a2 ac2 a3 ac3 a4 ac4, .int .i64 0] w (AnsN w (exptQ (Q6.rat u v) 0)) := by
 have hS : St w w [] [(a4, words v.den), (a3, words v.num.natAbs), (a2, words u.den), (a1, words u.num.natAbs)] [] := ((((St.start w).addR ha.s1.rd).addR ha.s2.rd).addR ha.s3.rd).addR ha.s4.rd
 refine walk_of (l := [(0, .agg #[.bool (rb u.num), .slice a1 ((words u.num.natAbs).length) ac1, .slice a2 ((words u.den).length) ac2, .bool (rb v.num), .slice a3 ((words v.num.natAbs).length) ac3, .slice a4 ((words v.den).length) ac4]), (1, .int .i64 0)]) Tryz.func30 rfl Tryz.ntmps30 rfl rfl ?_
 intro Q hret hnorm hP a hA
 refine wp_seq_k (fun K1 hK1 => ?_)
 refine wp_region_lit ?_
 refine seq_new hA hS rfl rfl rfl (fun g => .pointer (some ⟨g, 0, none⟩)) (d_box rfl rfl) rfl ?_
 intro g2 w3 hS a hA
 refine seq_new (vs := [.bool false, .slice none 0 0, .slice none 0 0, .bool false, .slice none 0 0, .slice none 0 0]) (t := 26) hA hS rfl rfl rfl (fun g => .pointer (some ⟨g, 0, none⟩)) (d_alloc (z := .agg #[.bool false, .slice none 0 0, .slice none 0 0, .bool false, .slice none 0 0, .slice none 0 0]) (by kernel_rfl) rfl) rfl ?_
 intro g4 w5 hS a hA
 refine seq_do hA rfl rfl rfl (d_assign rfl) ?_
 intro a hA
 refine seq_end ?_
 refine hK1 _ _ ?_
 refine wp_seq_k (fun K6 hK6 => ?_)
 refine wp_block ?_
 refine wp_seq_k (fun K7 hK7 => ?_)
 refine wp_region_lit ?_
 refine seq_do hA rfl rfl rfl (d_loadS hS ExV_isS_26 rfl 1 rfl (cs := [.bool (rb u.num), .slice a1 ((words u.num.natAbs).length) ac1, .slice a2 ((words u.den).length) ac2, .bool (rb v.num), .slice a3 ((words v.num.natAbs).length) ac3, .slice a4 ((words v.den).length) ac4]) rfl rfl) ?_
 intro a hA
 refine seq_call hA rfl rfl rfl (enters_func  rfl rfl (fun w => by kernel_rfl)) (soundQ_any (show Nm _ (Q6.rat u v) a1 ac1 a2 ac2 a3 ac3 a4 ac4 from ⟨⟨(hS.rd 3 rfl), ha.s1.nil, ha.s1.cap⟩, ⟨(hS.rd 2 rfl), ha.s2.nil, ha.s2.cap⟩, ⟨(hS.rd 1 rfl), ha.s3.nil, ha.s3.cap⟩, ⟨(hS.rd 0 rfl), ha.s4.nil, ha.s4.cap⟩⟩) (lenQ_rat hu hv) (soundQ_rat hu hv)) ?_
 rintro _ w9 ⟨rfl, hb8⟩
 replace hS := hS.call hb8
 refine ⟨_, rfl, ?_⟩
 intro a hA
 refine seq_do (v := .bool false) hA rfl rfl rfl (d_un rfl un_not) ?_
 intro a hA
 refine seq_do hA rfl rfl rfl (d_assign rfl) ?_
 intro a hA
 refine seq_end ?_
 refine hK7 _ _ ?_
 refine wp_cond_false (hA.ev rfl) ?_
 refine wp_seq_k (fun K10 hK10 => ?_)
 refine wp_region_lit ?_
 refine seq_do hA rfl rfl rfl (d_move rfl) ?_
 intro a hA
 refine seq_do (v := .bool false) hA rfl rfl rfl (d_bin rfl rfl (fun w => by kernel_rfl)) ?_
 intro a hA
 refine seq_do hA rfl rfl rfl (d_move rfl) ?_
 intro a hA
 refine seq_do hA rfl rfl rfl (d_move rfl) ?_
 intro a hA
 refine seq_do (v := .bool false) hA rfl rfl rfl (d_bin rfl rfl (fun w => by kernel_rfl)) ?_
 intro a hA
 refine seq_do (v := .bool false) hA rfl rfl rfl (d_pick rfl rfl rfl rfl) ?_
 intro a hA
 refine seq_do hA rfl rfl rfl (d_assign rfl) ?_
 intro a hA
 refine seq_end ?_
 refine hK10 _ _ ?_
 refine wp_cond_false (hA.ev rfl) ?_
 refine wp_seq_k (fun K11 hK11 => ?_)
 refine wp_region_lit ?_
 refine seq_do hA rfl rfl rfl (d_move rfl) ?_
 intro a hA
 refine seq_do (v := .bool true) hA rfl rfl rfl (d_bin rfl rfl (fun w => by kernel_rfl)) ?_
 intro a hA
 refine seq_do hA rfl rfl rfl (d_assign rfl) ?_
 intro a hA
 refine seq_end ?_
 refine hK11 _ _ ?_
 refine wp_cond_true (hA.ev rfl) ?_
 refine wp_seq_k (fun K12 hK12 => ?_)
 refine wp_region_lit ?_
 refine seq_call hA rfl rfl rfl (enters_func  rfl rfl (fun w => by kernel_rfl)) ((show Calls Tryz.prog 24 #[.int .i64 (1)] _ (AnsV _ (Q6.whole false 1)) from intP_any (k := 1) (by decide))) ?_
 rintro _ w16 ⟨p13_1, p13_c1, p13_2, p13_c2, p13_3, p13_c3, p13_4, p13_c4, rfl, hn14, hb15⟩
 replace hS := hS.call hb15
 replace hS := hS.addR hn14.s1.rd
 replace hS := hS.addR hn14.s2.rd
 replace hS := hS.addR hn14.s3.rd
 replace hS := hS.addR hn14.s4.rd
 refine ⟨_, rfl, ?_⟩
 intro a hA
 refine seq_store (us := [.bool false, .slice p13_1 ((words 1).length) p13_c1, .slice p13_2 1 p13_c2, .bool false, .slice p13_3 0 p13_c3, .slice p13_4 1 p13_c4]) hA hS rfl rfl (sets_store rfl rfl rfl (by kernel_rfl) hS 0 rfl rfl rfl) 0 rfl rfl rfl rfl ?_
 intro w17 hS
 refine seq_do hA rfl rfl rfl (d_assign rfl) ?_
 intro a hA
 refine seq_end ?_
 refine hK12 _ _ ?_
 refine wp_ret ?_
 refine hret _ _ ?_
 refine ends (v := .tuple #[.agg #[.bool false, .slice p13_1 ((words 1).length) p13_c1, .slice p13_2 1 p13_c2, .bool false, .slice p13_3 0 p13_c3, .slice p13_4 1 p13_c4], .int .i64 0]) hA rfl (.cons (res_cell hS ExV_isS_26 rfl 0 rfl (cs := [.bool false, .slice p13_1 ((words 1).length) p13_c1, .slice p13_2 1 p13_c2, .bool false, .slice p13_3 0 p13_c3, .slice p13_4 1 p13_c4]) rfl rfl) (.cons (res_tmp rfl) .nil)) rfl ?_
 rw [exptQ_0 hu hv]
 exact ⟨p13_1, p13_c1, p13_2, p13_c2, p13_3, p13_c3, p13_4, p13_c4, rfl, ⟨⟨(hS.rd 3 rfl), hn14.s1.nil, hn14.s1.cap⟩, ⟨(hS.rd 2 rfl), hn14.s2.nil, hn14.s2.cap⟩, ⟨(hS.rd 1 rfl), hn14.s3.nil, hn14.s3.cap⟩, ⟨(hS.rd 0 rfl), hn14.s4.nil, hn14.s4.cap⟩⟩, hS.bel⟩
theorem exptZ_any {w : World} {u v : Rat} {a1 a2 a3 a4 : Option Addr} {ac1 ac2 ac3 ac4 : Nat} (ha : Nm w (Q6.rat u v) a1 ac1 a2 ac2 a3 ac3 a4 ac4) (hu : fitR u) (hv : fitR v) {N : Nat} (h1 : 1 ≤ N) (h2 : N ≤ 1024) (hz : u = 0 ∧ v = 0) : Calls Tryz.prog 30 #[numV (Q6.rat u v) a1 ac1 a2 ac2 a3 ac3 a4 ac4, .int .i64 (-((N : Nat) : Int))] w (AnsN w (exptQ (Q6.rat u v) (-((N : Nat) : Int)))) := by
 have k1 : (words u.num.natAbs).length ≤ 512 := hu.1
 have k2 : (words v.num.natAbs).length ≤ 512 := hv.1
 have hS : St w w [] [(a4, words v.den), (a3, words v.num.natAbs), (a2, words u.den), (a1, words u.num.natAbs)] [] := ((((St.start w).addR ha.s1.rd).addR ha.s2.rd).addR ha.s3.rd).addR ha.s4.rd
 refine walk_of (l := [(0, .agg #[.bool (rb u.num), .slice a1 ((words u.num.natAbs).length) ac1, .slice a2 ((words u.den).length) ac2, .bool (rb v.num), .slice a3 ((words v.num.natAbs).length) ac3, .slice a4 ((words v.den).length) ac4]), (1, .int .i64 (-((N : Nat) : Int)))]) Tryz.func30 rfl Tryz.ntmps30 rfl rfl ?_
 intro Q hret hnorm hP a hA
 refine wp_seq_k (fun K1 hK1 => ?_)
 refine wp_region_lit ?_
 refine seq_new hA hS rfl rfl rfl (fun g => .pointer (some ⟨g, 0, none⟩)) (d_box rfl rfl) rfl ?_
 intro g2 w3 hS a hA
 refine seq_new (vs := [.bool false, .slice none 0 0, .slice none 0 0, .bool false, .slice none 0 0, .slice none 0 0]) (t := 26) hA hS rfl rfl rfl (fun g => .pointer (some ⟨g, 0, none⟩)) (d_alloc (z := .agg #[.bool false, .slice none 0 0, .slice none 0 0, .bool false, .slice none 0 0, .slice none 0 0]) (by kernel_rfl) rfl) rfl ?_
 intro g4 w5 hS a hA
 refine seq_do hA rfl rfl rfl (d_assign rfl) ?_
 intro a hA
 refine seq_end ?_
 refine hK1 _ _ ?_
 refine wp_seq_k (fun K6 hK6 => ?_)
 refine wp_block ?_
 refine wp_seq_k (fun K7 hK7 => ?_)
 refine wp_region_lit ?_
 refine seq_do hA rfl rfl rfl (d_loadS hS ExV_isS_26 rfl 1 rfl (cs := [.bool (rb u.num), .slice a1 ((words u.num.natAbs).length) ac1, .slice a2 ((words u.den).length) ac2, .bool (rb v.num), .slice a3 ((words v.num.natAbs).length) ac3, .slice a4 ((words v.den).length) ac4]) rfl rfl) ?_
 intro a hA
 refine seq_call hA rfl rfl rfl (enters_func  rfl rfl (fun w => by kernel_rfl)) (soundQ_any (show Nm _ (Q6.rat u v) a1 ac1 a2 ac2 a3 ac3 a4 ac4 from ⟨⟨(hS.rd 3 rfl), ha.s1.nil, ha.s1.cap⟩, ⟨(hS.rd 2 rfl), ha.s2.nil, ha.s2.cap⟩, ⟨(hS.rd 1 rfl), ha.s3.nil, ha.s3.cap⟩, ⟨(hS.rd 0 rfl), ha.s4.nil, ha.s4.cap⟩⟩) (lenQ_rat hu hv) (soundQ_rat hu hv)) ?_
 rintro _ w9 ⟨rfl, hb8⟩
 replace hS := hS.call hb8
 refine ⟨_, rfl, ?_⟩
 intro a hA
 refine seq_do (v := .bool false) hA rfl rfl rfl (d_un rfl un_not) ?_
 intro a hA
 refine seq_do hA rfl rfl rfl (d_assign rfl) ?_
 intro a hA
 refine seq_end ?_
 refine hK7 _ _ ?_
 refine wp_cond_false (hA.ev rfl) ?_
 refine wp_seq_k (fun K10 hK10 => ?_)
 refine wp_region_lit ?_
 refine seq_do hA rfl rfl rfl (d_move rfl) ?_
 intro a hA
 refine seq_do (v := .bool false) hA rfl rfl rfl (d_bin rfl rfl (fun w => (bin_lss w).trans (by rw [show (decide (-((N : Nat) : Int) < -1024)) = false from (decide_eq_false (by omega))]))) ?_
 intro a hA
 refine seq_do hA rfl rfl rfl (d_move rfl) ?_
 intro a hA
 refine seq_do hA rfl rfl rfl (d_move rfl) ?_
 intro a hA
 refine seq_do (v := .bool false) hA rfl rfl rfl (d_bin rfl rfl (fun w => (bin_gtr w).trans (by rw [show (decide (1024 < -((N : Nat) : Int))) = false from (decide_eq_false (by omega))]))) ?_
 intro a hA
 refine seq_do (v := .bool false) hA rfl rfl rfl (d_pick rfl rfl rfl rfl) ?_
 intro a hA
 refine seq_do hA rfl rfl rfl (d_assign rfl) ?_
 intro a hA
 refine seq_end ?_
 refine hK10 _ _ ?_
 refine wp_cond_false (hA.ev rfl) ?_
 refine wp_seq_k (fun K11 hK11 => ?_)
 refine wp_region_lit ?_
 refine seq_do hA rfl rfl rfl (d_move rfl) ?_
 intro a hA
 refine seq_do (v := .bool false) hA rfl rfl rfl (d_bin rfl rfl (fun w => (bin_eql w).trans (by rw [show ((-((N : Nat) : Int) == 0)) = false from (beq_eq_false_iff_ne.2 (by omega))]))) ?_
 intro a hA
 refine seq_do hA rfl rfl rfl (d_assign rfl) ?_
 intro a hA
 refine seq_end ?_
 refine hK11 _ _ ?_
 refine wp_cond_false (hA.ev rfl) ?_
 refine wp_seq_k (fun K12 hK12 => ?_)
 refine wp_region_lit ?_
 refine seq_do hA rfl rfl rfl (d_move rfl) ?_
 intro a hA
 refine seq_do (v := .bool true) hA rfl rfl rfl (d_bin rfl rfl (fun w => (bin_lss w).trans (by rw [show (decide (-((N : Nat) : Int) < 0)) = true from (decide_eq_true (by omega))]))) ?_
 intro a hA
 refine seq_do hA rfl rfl rfl (d_move rfl) ?_
 intro a hA
 refine seq_do hA rfl rfl rfl (d_loadS hS ExV_isS_26 rfl 1 rfl (cs := [.bool (rb u.num), .slice a1 ((words u.num.natAbs).length) ac1, .slice a2 ((words u.den).length) ac2, .bool (rb v.num), .slice a3 ((words v.num.natAbs).length) ac3, .slice a4 ((words v.den).length) ac4]) rfl rfl) ?_
 intro a hA
 refine seq_call hA rfl rfl rfl (enters_func  rfl rfl (fun w => by kernel_rfl)) ((show Calls Tryz.prog 66 #[.agg #[.bool (rb u.num), .slice a1 ((words u.num.natAbs).length) ac1, .slice a2 ((words u.den).length) ac2, .bool (rb v.num), .slice a3 ((words v.num.natAbs).length) ac3, .slice a4 ((words v.den).length) ac4]] _ (fun e w' => e = .returned (.bool true) ∧ _) from (((zero_rat u v).trans (decide_eq_true hz)) ▸ isZero_any (by omega) (by omega)))) ?_
 rintro _ w14 ⟨rfl, hb13⟩
 replace hS := hS.call hb13
 refine ⟨_, rfl, ?_⟩
 intro a hA
 refine seq_do (v := .bool true) hA rfl rfl rfl (d_pick rfl rfl rfl rfl) ?_
 intro a hA
 refine seq_do hA rfl rfl rfl (d_assign rfl) ?_
 intro a hA
 refine seq_end ?_
 refine hK12 _ _ ?_
 refine wp_cond_true (hA.ev rfl) ?_
 refine wp_seq_k (fun K15 hK15 => ?_)
 refine wp_region_lit ?_
 refine seq_do (v := .agg #[.bool false, .slice none 0 0, .slice none 0 0, .bool false, .slice none 0 0, .slice none 0 0]) hA rfl rfl rfl (d_build rfl (fun w => by kernel_rfl)) ?_
 intro a hA
 refine seq_store (us := [.bool false, .slice none 0 0, .slice none 0 0, .bool false, .slice none 0 0, .slice none 0 0]) hA hS rfl rfl (sets_store rfl rfl rfl (by kernel_rfl) hS 0 rfl rfl rfl) 0 rfl rfl rfl rfl ?_
 intro w16 hS
 refine seq_do hA rfl rfl rfl (d_assign rfl) ?_
 intro a hA
 refine seq_end ?_
 refine hK15 _ _ ?_
 refine wp_ret ?_
 refine hret _ _ ?_
 refine ends (v := .tuple #[.agg #[.bool false, .slice none 0 0, .slice none 0 0, .bool false, .slice none 0 0, .slice none 0 0], .int .i64 3]) hA rfl (.cons (res_cell hS ExV_isS_26 rfl 0 rfl (cs := [.bool false, .slice none 0 0, .slice none 0 0, .bool false, .slice none 0 0, .slice none 0 0]) rfl rfl) (.cons (res_tmp rfl) .nil)) rfl ?_
 rw [exptQ_z hu hv h1 h2 hz]
 exact ⟨none, 0, none, 0, none, 0, none, 0, rfl, ⟨(Sc.none _), (Sc.none _), (Sc.none _), (Sc.none _)⟩, hS.bel⟩
theorem exptPT_any {w : World} {u v : Rat} {a1 a2 a3 a4 : Option Addr} {ac1 ac2 ac3 ac4 : Nat} (ha : Nm w (Q6.rat u v) a1 ac1 a2 ac2 a3 ac3 a4 ac4) (hu : fitR u) (hv : fitR v) {N : Nat} (h1 : 1 ≤ N) (h2 : N ≤ 1024) (hB : pwB u v N = true) : Calls Tryz.prog 30 #[numV (Q6.rat u v) a1 ac1 a2 ac2 a3 ac3 a4 ac4, .int .i64 (((N : Nat) : Int))] w (AnsN w (exptQ (Q6.rat u v) (((N : Nat) : Int)))) := by
 have hS : St w w [] [(a4, words v.den), (a3, words v.num.natAbs), (a2, words u.den), (a1, words u.num.natAbs)] [] := ((((St.start w).addR ha.s1.rd).addR ha.s2.rd).addR ha.s3.rd).addR ha.s4.rd
 refine walk_of (l := [(0, .agg #[.bool (rb u.num), .slice a1 ((words u.num.natAbs).length) ac1, .slice a2 ((words u.den).length) ac2, .bool (rb v.num), .slice a3 ((words v.num.natAbs).length) ac3, .slice a4 ((words v.den).length) ac4]), (1, .int .i64 (((N : Nat) : Int)))]) Tryz.func30 rfl Tryz.ntmps30 rfl rfl ?_
 intro Q hret hnorm hP a hA
 refine wp_seq_k (fun K1 hK1 => ?_)
 refine wp_region_lit ?_
 refine seq_new hA hS rfl rfl rfl (fun g => .pointer (some ⟨g, 0, none⟩)) (d_box rfl rfl) rfl ?_
 intro g2 w3 hS a hA
 refine seq_new (vs := [.bool false, .slice none 0 0, .slice none 0 0, .bool false, .slice none 0 0, .slice none 0 0]) (t := 26) hA hS rfl rfl rfl (fun g => .pointer (some ⟨g, 0, none⟩)) (d_alloc (z := .agg #[.bool false, .slice none 0 0, .slice none 0 0, .bool false, .slice none 0 0, .slice none 0 0]) (by kernel_rfl) rfl) rfl ?_
 intro g4 w5 hS a hA
 refine seq_do hA rfl rfl rfl (d_assign rfl) ?_
 intro a hA
 refine seq_end ?_
 refine hK1 _ _ ?_
 refine wp_seq_k (fun K6 hK6 => ?_)
 refine wp_block ?_
 refine wp_seq_k (fun K7 hK7 => ?_)
 refine wp_region_lit ?_
 refine seq_do hA rfl rfl rfl (d_loadS hS ExV_isS_26 rfl 1 rfl (cs := [.bool (rb u.num), .slice a1 ((words u.num.natAbs).length) ac1, .slice a2 ((words u.den).length) ac2, .bool (rb v.num), .slice a3 ((words v.num.natAbs).length) ac3, .slice a4 ((words v.den).length) ac4]) rfl rfl) ?_
 intro a hA
 refine seq_call hA rfl rfl rfl (enters_func  rfl rfl (fun w => by kernel_rfl)) (soundQ_any (show Nm _ (Q6.rat u v) a1 ac1 a2 ac2 a3 ac3 a4 ac4 from ⟨⟨(hS.rd 3 rfl), ha.s1.nil, ha.s1.cap⟩, ⟨(hS.rd 2 rfl), ha.s2.nil, ha.s2.cap⟩, ⟨(hS.rd 1 rfl), ha.s3.nil, ha.s3.cap⟩, ⟨(hS.rd 0 rfl), ha.s4.nil, ha.s4.cap⟩⟩) (lenQ_rat hu hv) (soundQ_rat hu hv)) ?_
 rintro _ w9 ⟨rfl, hb8⟩
 replace hS := hS.call hb8
 refine ⟨_, rfl, ?_⟩
 intro a hA
 refine seq_do (v := .bool false) hA rfl rfl rfl (d_un rfl un_not) ?_
 intro a hA
 refine seq_do hA rfl rfl rfl (d_assign rfl) ?_
 intro a hA
 refine seq_end ?_
 refine hK7 _ _ ?_
 refine wp_cond_false (hA.ev rfl) ?_
 refine wp_seq_k (fun K10 hK10 => ?_)
 refine wp_region_lit ?_
 refine seq_do hA rfl rfl rfl (d_move rfl) ?_
 intro a hA
 refine seq_do (v := .bool false) hA rfl rfl rfl (d_bin rfl rfl (fun w => (bin_lss w).trans (by rw [show (decide (((N : Nat) : Int) < -1024)) = false from (decide_eq_false (by omega))]))) ?_
 intro a hA
 refine seq_do hA rfl rfl rfl (d_move rfl) ?_
 intro a hA
 refine seq_do hA rfl rfl rfl (d_move rfl) ?_
 intro a hA
 refine seq_do (v := .bool false) hA rfl rfl rfl (d_bin rfl rfl (fun w => (bin_gtr w).trans (by rw [show (decide (1024 < ((N : Nat) : Int))) = false from (decide_eq_false (by omega))]))) ?_
 intro a hA
 refine seq_do (v := .bool false) hA rfl rfl rfl (d_pick rfl rfl rfl rfl) ?_
 intro a hA
 refine seq_do hA rfl rfl rfl (d_assign rfl) ?_
 intro a hA
 refine seq_end ?_
 refine hK10 _ _ ?_
 refine wp_cond_false (hA.ev rfl) ?_
 refine wp_seq_k (fun K11 hK11 => ?_)
 refine wp_region_lit ?_
 refine seq_do hA rfl rfl rfl (d_move rfl) ?_
 intro a hA
 refine seq_do (v := .bool false) hA rfl rfl rfl (d_bin rfl rfl (fun w => (bin_eql w).trans (by rw [show ((((N : Nat) : Int) == 0)) = false from (beq_eq_false_iff_ne.2 (by omega))]))) ?_
 intro a hA
 refine seq_do hA rfl rfl rfl (d_assign rfl) ?_
 intro a hA
 refine seq_end ?_
 refine hK11 _ _ ?_
 refine wp_cond_false (hA.ev rfl) ?_
 refine wp_seq_k (fun K12 hK12 => ?_)
 refine wp_region_lit ?_
 refine seq_do hA rfl rfl rfl (d_move rfl) ?_
 intro a hA
 refine seq_do (v := .bool false) hA rfl rfl rfl (d_bin rfl rfl (fun w => (bin_lss w).trans (by rw [show (decide (((N : Nat) : Int) < 0)) = false from (decide_eq_false (by omega))]))) ?_
 intro a hA
 refine seq_do hA rfl rfl rfl (d_move rfl) ?_
 intro a hA
 refine seq_skip hA rfl rfl rfl ?_
 intro a hA
 refine seq_skip hA rfl rfl rfl ?_
 intro a hA
 refine seq_do (v := .bool false) hA rfl rfl rfl (d_pick rfl rfl rfl rfl) ?_
 intro a hA
 refine seq_do hA rfl rfl rfl (d_assign rfl) ?_
 intro a hA
 refine seq_end ?_
 refine hK12 _ _ ?_
 refine wp_cond_false (hA.ev rfl) ?_
 refine wp_skip ?_
 refine hK6 _ _ ?_
 refine wp_seq_k (fun K13 hK13 => ?_)
 refine wp_region_lit ?_
 refine seq_do hA rfl rfl rfl (d_loadS hS ExV_isS_26 rfl 1 rfl (cs := [.bool (rb u.num), .slice a1 ((words u.num.natAbs).length) ac1, .slice a2 ((words u.den).length) ac2, .bool (rb v.num), .slice a3 ((words v.num.natAbs).length) ac3, .slice a4 ((words v.den).length) ac4]) rfl rfl) ?_
 intro a hA
 refine seq_call hA rfl rfl rfl (enters_func  rfl rfl (fun w => by kernel_rfl)) (zspread_any (show Nm _ (Q6.rat u v) a1 ac1 a2 ac2 a3 ac3 a4 ac4 from ⟨⟨(hS.rd 3 rfl), ha.s1.nil, ha.s1.cap⟩, ⟨(hS.rd 2 rfl), ha.s2.nil, ha.s2.cap⟩, ⟨(hS.rd 1 rfl), ha.s3.nil, ha.s3.cap⟩, ⟨(hS.rd 0 rfl), ha.s4.nil, ha.s4.cap⟩⟩) hu hv) ?_
 rintro _ w19 ⟨p14_1, p14_c1, p14_2, p14_c2, p14_3, p14_c3, rfl, hs15, hs16, hs17, hb18⟩
 replace hS := hS.call hb18
 replace hS := hS.addR hs15.rd
 replace hS := hS.addR hs16.rd
 replace hS := hS.addR hs17.rd
 refine ⟨_, rfl, ?_⟩
 intro a hA
 refine seq_do hA rfl rfl rfl (d_move rfl) ?_
 intro a hA
 refine seq_do hA rfl rfl rfl (d_move rfl) ?_
 intro a hA
 refine seq_do (v := .int .i64 (-(((N : Nat) : Int)))) hA rfl rfl rfl (d_un rfl (un_neg (i64In (by omega) (by omega)))) ?_
 intro a hA
 refine seq_do (v := .int .i64 (((N : Nat) : Int))) hA rfl rfl rfl (d_builtin rfl (run_maxI (by split <;> omega))) ?_
 intro a hA
 refine seq_call hA rfl rfl rfl (enters_func  rfl rfl (fun w => by kernel_rfl)) (zpowerT_any (n := N) ⟨(hS.rd 2 rfl), hs15.nil, hs15.cap⟩ ⟨(hS.rd 1 rfl), hs16.nil, hs16.cap⟩ ⟨(hS.rd 0 rfl), hs17.nil, hs17.cap⟩ (spX_len hu hv) (spY_len hu hv) (spD_len hu hv) (spD_ne u v) (spX_mk u v) (spY_mk u v) hu hv h1 h2 hB) ?_
 rintro _ w24 ⟨X, Y, D, ⟨hD9, hX9, hY9, lX9, lY9, lD9⟩, po1, poc1, po2, poc2, po3, poc3, rfl, hs21, hs22, hs23, hb20⟩
 replace hS := hS.call hb20
 replace hS := hS.addR hs21.rd
 replace hS := hS.addR hs22.rd
 replace hS := hS.addR hs23.rd
 refine ⟨_, rfl, ?_⟩
 intro a hA
 refine seq_do hA rfl rfl rfl (d_move rfl) ?_
 intro a hA
 refine seq_do (v := .agg #[.bool ((rb X)), .slice po1 ((words X.natAbs).length) poc1, .bool ((rb Y)), .slice po2 ((words Y.natAbs).length) poc2, .slice po3 ((words D).length) poc3]) hA rfl rfl rfl (d_extract (vs := [.agg #[.bool ((rb X)), .slice po1 ((words X.natAbs).length) poc1, .bool ((rb Y)), .slice po2 ((words Y.natAbs).length) poc2, .slice po3 ((words D).length) poc3], .int .i64 0]) rfl rfl) ?_
 intro a hA
 refine seq_do (v := .int .i64 0) hA rfl rfl rfl (d_extract (vs := [.agg #[.bool ((rb X)), .slice po1 ((words X.natAbs).length) poc1, .bool ((rb Y)), .slice po2 ((words Y.natAbs).length) poc2, .slice po3 ((words D).length) poc3], .int .i64 0]) rfl rfl) ?_
 intro a hA
 refine seq_new (vs := [.bool false, .slice none 0 0, .bool false, .slice none 0 0, .slice none 0 0]) (t := 55) hA hS rfl rfl rfl (fun g => .pointer (some ⟨g, 0, none⟩)) (d_alloc (z := .agg #[.bool false, .slice none 0 0, .bool false, .slice none 0 0, .slice none 0 0]) (by kernel_rfl) rfl) rfl ?_
 intro g25 w26 hS a hA
 refine seq_store (us := [.bool ((rb X)), .slice po1 ((words X.natAbs).length) poc1, .bool ((rb Y)), .slice po2 ((words Y.natAbs).length) poc2, .slice po3 ((words D).length) poc3]) hA hS rfl rfl (sets_store rfl rfl rfl (by kernel_rfl) hS 0 rfl rfl rfl) 0 rfl rfl rfl rfl ?_
 intro w27 hS
 refine seq_do hA rfl rfl rfl (d_assign rfl) ?_
 intro a hA
 refine seq_end ?_
 refine hK13 _ _ ?_
 refine wp_seq_k (fun K28 hK28 => ?_)
 refine wp_seq_k (fun K29 hK29 => ?_)
 refine wp_region_lit ?_
 refine seq_do hA rfl rfl rfl (d_move rfl) ?_
 intro a hA
 refine seq_do (v := .bool false) hA rfl rfl rfl (d_bin rfl rfl (fun w => by kernel_rfl)) ?_
 intro a hA
 refine seq_end ?_
 refine hK29 _ _ ?_
 refine wp_cond_false (hA.ev rfl) ?_
 refine wp_skip ?_
 refine hK28 _ _ ?_
 refine wp_seq_k (fun K30 hK30 => ?_)
 refine wp_seq_k (fun K31 hK31 => ?_)
 refine wp_region_lit ?_
 refine seq_do hA rfl rfl rfl (d_move rfl) ?_
 intro a hA
 refine seq_do (v := .bool false) hA rfl rfl rfl (d_bin rfl rfl (fun w => (bin_lss w).trans (by rw [show (decide (((N : Nat) : Int) < 0)) = false from (decide_eq_false (by omega))]))) ?_
 intro a hA
 refine seq_end ?_
 refine hK31 _ _ ?_
 refine wp_cond_false (hA.ev rfl) ?_
 refine wp_skip ?_
 refine hK30 _ _ ?_
 refine wp_seq_k (fun K32 hK32 => ?_)
 refine wp_region_lit ?_
 refine seq_do hA rfl rfl rfl (d_loadS hS ExV_isS_55 rfl 0 rfl (cs := [.bool ((rb X)), .slice po1 ((words X.natAbs).length) poc1, .bool ((rb Y)), .slice po2 ((words Y.natAbs).length) poc2, .slice po3 ((words D).length) poc3]) rfl rfl) ?_
 intro a hA
 refine seq_call hA rfl rfl rfl (enters_func  rfl rfl (fun w => by kernel_rfl)) (zsettle_as ⟨(hS.rd 2 rfl), hs21.nil, hs21.cap⟩ ⟨(hS.rd 1 rfl), hs22.nil, hs22.cap⟩ ⟨(hS.rd 0 rfl), hs23.nil, hs23.cap⟩ (set_pw hD9 hX9 hY9) (by omega) (by omega) (by omega) hD9) ?_
 rintro _ w36 ⟨p33_1, p33_c1, p33_2, p33_c2, p33_3, p33_c3, p33_4, p33_c4, rfl, hn34, hb35⟩
 replace hS := hS.call hb35
 replace hS := hS.addR hn34.s1.rd
 replace hS := hS.addR hn34.s2.rd
 replace hS := hS.addR hn34.s3.rd
 replace hS := hS.addR hn34.s4.rd
 refine ⟨_, rfl, ?_⟩
 intro a hA
 refine seq_do (v := .agg #[.bool ((ratS (pwR u v N).1 (pwR u v N).2).1.b1), .slice p33_1 (((ratS (pwR u v N).1 (pwR u v N).2).1.t1).length) p33_c1, .slice p33_2 (((ratS (pwR u v N).1 (pwR u v N).2).1.q1).length) p33_c2, .bool ((ratS (pwR u v N).1 (pwR u v N).2).1.b2), .slice p33_3 (((ratS (pwR u v N).1 (pwR u v N).2).1.t2).length) p33_c3, .slice p33_4 (((ratS (pwR u v N).1 (pwR u v N).2).1.q2).length) p33_c4]) hA rfl rfl rfl (d_extract (vs := [.agg #[.bool ((ratS (pwR u v N).1 (pwR u v N).2).1.b1), .slice p33_1 (((ratS (pwR u v N).1 (pwR u v N).2).1.t1).length) p33_c1, .slice p33_2 (((ratS (pwR u v N).1 (pwR u v N).2).1.q1).length) p33_c2, .bool ((ratS (pwR u v N).1 (pwR u v N).2).1.b2), .slice p33_3 (((ratS (pwR u v N).1 (pwR u v N).2).1.t2).length) p33_c3, .slice p33_4 (((ratS (pwR u v N).1 (pwR u v N).2).1.q2).length) p33_c4], .int .i64 ((ratS (pwR u v N).1 (pwR u v N).2).2)]) rfl rfl) ?_
 intro a hA
 refine seq_do (v := .int .i64 ((ratS (pwR u v N).1 (pwR u v N).2).2)) hA rfl rfl rfl (d_extract (vs := [.agg #[.bool ((ratS (pwR u v N).1 (pwR u v N).2).1.b1), .slice p33_1 (((ratS (pwR u v N).1 (pwR u v N).2).1.t1).length) p33_c1, .slice p33_2 (((ratS (pwR u v N).1 (pwR u v N).2).1.q1).length) p33_c2, .bool ((ratS (pwR u v N).1 (pwR u v N).2).1.b2), .slice p33_3 (((ratS (pwR u v N).1 (pwR u v N).2).1.t2).length) p33_c3, .slice p33_4 (((ratS (pwR u v N).1 (pwR u v N).2).1.q2).length) p33_c4], .int .i64 ((ratS (pwR u v N).1 (pwR u v N).2).2)]) rfl rfl) ?_
 intro a hA
 refine seq_store (us := [.bool ((ratS (pwR u v N).1 (pwR u v N).2).1.b1), .slice p33_1 (((ratS (pwR u v N).1 (pwR u v N).2).1.t1).length) p33_c1, .slice p33_2 (((ratS (pwR u v N).1 (pwR u v N).2).1.q1).length) p33_c2, .bool ((ratS (pwR u v N).1 (pwR u v N).2).1.b2), .slice p33_3 (((ratS (pwR u v N).1 (pwR u v N).2).1.t2).length) p33_c3, .slice p33_4 (((ratS (pwR u v N).1 (pwR u v N).2).1.q2).length) p33_c4]) hA hS rfl rfl (sets_store rfl rfl rfl (by kernel_rfl) hS 1 rfl rfl rfl) 1 rfl rfl rfl rfl ?_
 intro w37 hS
 refine seq_do hA rfl rfl rfl (d_assign rfl) ?_
 intro a hA
 refine seq_end ?_
 refine hK32 _ _ ?_
 refine wp_ret ?_
 refine hret _ _ ?_
 refine ends (v := .tuple #[.agg #[.bool ((ratS (pwR u v N).1 (pwR u v N).2).1.b1), .slice p33_1 (((ratS (pwR u v N).1 (pwR u v N).2).1.t1).length) p33_c1, .slice p33_2 (((ratS (pwR u v N).1 (pwR u v N).2).1.q1).length) p33_c2, .bool ((ratS (pwR u v N).1 (pwR u v N).2).1.b2), .slice p33_3 (((ratS (pwR u v N).1 (pwR u v N).2).1.t2).length) p33_c3, .slice p33_4 (((ratS (pwR u v N).1 (pwR u v N).2).1.q2).length) p33_c4], .int .i64 ((ratS (pwR u v N).1 (pwR u v N).2).2)]) hA rfl (.cons (res_cell hS ExV_isS_26 rfl 1 rfl (cs := [.bool ((ratS (pwR u v N).1 (pwR u v N).2).1.b1), .slice p33_1 (((ratS (pwR u v N).1 (pwR u v N).2).1.t1).length) p33_c1, .slice p33_2 (((ratS (pwR u v N).1 (pwR u v N).2).1.q1).length) p33_c2, .bool ((ratS (pwR u v N).1 (pwR u v N).2).1.b2), .slice p33_3 (((ratS (pwR u v N).1 (pwR u v N).2).1.t2).length) p33_c3, .slice p33_4 (((ratS (pwR u v N).1 (pwR u v N).2).1.q2).length) p33_c4]) rfl rfl) (.cons (res_tmp rfl) .nil)) rfl ?_
 rw [exptQ_pos hu hv h1 h2, if_pos hB]
 exact ⟨p33_1, p33_c1, p33_2, p33_c2, p33_3, p33_c3, p33_4, p33_c4, rfl, ⟨⟨(hS.rd 3 rfl), hn34.s1.nil, hn34.s1.cap⟩, ⟨(hS.rd 2 rfl), hn34.s2.nil, hn34.s2.cap⟩, ⟨(hS.rd 1 rfl), hn34.s3.nil, hn34.s3.cap⟩, ⟨(hS.rd 0 rfl), hn34.s4.nil, hn34.s4.cap⟩⟩, hS.bel⟩
theorem exptPF_any {w : World} {u v : Rat} {a1 a2 a3 a4 : Option Addr} {ac1 ac2 ac3 ac4 : Nat} (ha : Nm w (Q6.rat u v) a1 ac1 a2 ac2 a3 ac3 a4 ac4) (hu : fitR u) (hv : fitR v) {N : Nat} (h1 : 1 ≤ N) (h2 : N ≤ 1024) (hB : pwB u v N = false) : Calls Tryz.prog 30 #[numV (Q6.rat u v) a1 ac1 a2 ac2 a3 ac3 a4 ac4, .int .i64 (((N : Nat) : Int))] w (AnsN w (exptQ (Q6.rat u v) (((N : Nat) : Int)))) := by
 have hS : St w w [] [(a4, words v.den), (a3, words v.num.natAbs), (a2, words u.den), (a1, words u.num.natAbs)] [] := ((((St.start w).addR ha.s1.rd).addR ha.s2.rd).addR ha.s3.rd).addR ha.s4.rd
 refine walk_of (l := [(0, .agg #[.bool (rb u.num), .slice a1 ((words u.num.natAbs).length) ac1, .slice a2 ((words u.den).length) ac2, .bool (rb v.num), .slice a3 ((words v.num.natAbs).length) ac3, .slice a4 ((words v.den).length) ac4]), (1, .int .i64 (((N : Nat) : Int)))]) Tryz.func30 rfl Tryz.ntmps30 rfl rfl ?_
 intro Q hret hnorm hP a hA
 refine wp_seq_k (fun K1 hK1 => ?_)
 refine wp_region_lit ?_
 refine seq_new hA hS rfl rfl rfl (fun g => .pointer (some ⟨g, 0, none⟩)) (d_box rfl rfl) rfl ?_
 intro g2 w3 hS a hA
 refine seq_new (vs := [.bool false, .slice none 0 0, .slice none 0 0, .bool false, .slice none 0 0, .slice none 0 0]) (t := 26) hA hS rfl rfl rfl (fun g => .pointer (some ⟨g, 0, none⟩)) (d_alloc (z := .agg #[.bool false, .slice none 0 0, .slice none 0 0, .bool false, .slice none 0 0, .slice none 0 0]) (by kernel_rfl) rfl) rfl ?_
 intro g4 w5 hS a hA
 refine seq_do hA rfl rfl rfl (d_assign rfl) ?_
 intro a hA
 refine seq_end ?_
 refine hK1 _ _ ?_
 refine wp_seq_k (fun K6 hK6 => ?_)
 refine wp_block ?_
 refine wp_seq_k (fun K7 hK7 => ?_)
 refine wp_region_lit ?_
 refine seq_do hA rfl rfl rfl (d_loadS hS ExV_isS_26 rfl 1 rfl (cs := [.bool (rb u.num), .slice a1 ((words u.num.natAbs).length) ac1, .slice a2 ((words u.den).length) ac2, .bool (rb v.num), .slice a3 ((words v.num.natAbs).length) ac3, .slice a4 ((words v.den).length) ac4]) rfl rfl) ?_
 intro a hA
 refine seq_call hA rfl rfl rfl (enters_func  rfl rfl (fun w => by kernel_rfl)) (soundQ_any (show Nm _ (Q6.rat u v) a1 ac1 a2 ac2 a3 ac3 a4 ac4 from ⟨⟨(hS.rd 3 rfl), ha.s1.nil, ha.s1.cap⟩, ⟨(hS.rd 2 rfl), ha.s2.nil, ha.s2.cap⟩, ⟨(hS.rd 1 rfl), ha.s3.nil, ha.s3.cap⟩, ⟨(hS.rd 0 rfl), ha.s4.nil, ha.s4.cap⟩⟩) (lenQ_rat hu hv) (soundQ_rat hu hv)) ?_
 rintro _ w9 ⟨rfl, hb8⟩
 replace hS := hS.call hb8
 refine ⟨_, rfl, ?_⟩
 intro a hA
 refine seq_do (v := .bool false) hA rfl rfl rfl (d_un rfl un_not) ?_
 intro a hA
 refine seq_do hA rfl rfl rfl (d_assign rfl) ?_
 intro a hA
 refine seq_end ?_
 refine hK7 _ _ ?_
 refine wp_cond_false (hA.ev rfl) ?_
 refine wp_seq_k (fun K10 hK10 => ?_)
 refine wp_region_lit ?_
 refine seq_do hA rfl rfl rfl (d_move rfl) ?_
 intro a hA
 refine seq_do (v := .bool false) hA rfl rfl rfl (d_bin rfl rfl (fun w => (bin_lss w).trans (by rw [show (decide (((N : Nat) : Int) < -1024)) = false from (decide_eq_false (by omega))]))) ?_
 intro a hA
 refine seq_do hA rfl rfl rfl (d_move rfl) ?_
 intro a hA
 refine seq_do hA rfl rfl rfl (d_move rfl) ?_
 intro a hA
 refine seq_do (v := .bool false) hA rfl rfl rfl (d_bin rfl rfl (fun w => (bin_gtr w).trans (by rw [show (decide (1024 < ((N : Nat) : Int))) = false from (decide_eq_false (by omega))]))) ?_
 intro a hA
 refine seq_do (v := .bool false) hA rfl rfl rfl (d_pick rfl rfl rfl rfl) ?_
 intro a hA
 refine seq_do hA rfl rfl rfl (d_assign rfl) ?_
 intro a hA
 refine seq_end ?_
 refine hK10 _ _ ?_
 refine wp_cond_false (hA.ev rfl) ?_
 refine wp_seq_k (fun K11 hK11 => ?_)
 refine wp_region_lit ?_
 refine seq_do hA rfl rfl rfl (d_move rfl) ?_
 intro a hA
 refine seq_do (v := .bool false) hA rfl rfl rfl (d_bin rfl rfl (fun w => (bin_eql w).trans (by rw [show ((((N : Nat) : Int) == 0)) = false from (beq_eq_false_iff_ne.2 (by omega))]))) ?_
 intro a hA
 refine seq_do hA rfl rfl rfl (d_assign rfl) ?_
 intro a hA
 refine seq_end ?_
 refine hK11 _ _ ?_
 refine wp_cond_false (hA.ev rfl) ?_
 refine wp_seq_k (fun K12 hK12 => ?_)
 refine wp_region_lit ?_
 refine seq_do hA rfl rfl rfl (d_move rfl) ?_
 intro a hA
 refine seq_do (v := .bool false) hA rfl rfl rfl (d_bin rfl rfl (fun w => (bin_lss w).trans (by rw [show (decide (((N : Nat) : Int) < 0)) = false from (decide_eq_false (by omega))]))) ?_
 intro a hA
 refine seq_do hA rfl rfl rfl (d_move rfl) ?_
 intro a hA
 refine seq_skip hA rfl rfl rfl ?_
 intro a hA
 refine seq_skip hA rfl rfl rfl ?_
 intro a hA
 refine seq_do (v := .bool false) hA rfl rfl rfl (d_pick rfl rfl rfl rfl) ?_
 intro a hA
 refine seq_do hA rfl rfl rfl (d_assign rfl) ?_
 intro a hA
 refine seq_end ?_
 refine hK12 _ _ ?_
 refine wp_cond_false (hA.ev rfl) ?_
 refine wp_skip ?_
 refine hK6 _ _ ?_
 refine wp_seq_k (fun K13 hK13 => ?_)
 refine wp_region_lit ?_
 refine seq_do hA rfl rfl rfl (d_loadS hS ExV_isS_26 rfl 1 rfl (cs := [.bool (rb u.num), .slice a1 ((words u.num.natAbs).length) ac1, .slice a2 ((words u.den).length) ac2, .bool (rb v.num), .slice a3 ((words v.num.natAbs).length) ac3, .slice a4 ((words v.den).length) ac4]) rfl rfl) ?_
 intro a hA
 refine seq_call hA rfl rfl rfl (enters_func  rfl rfl (fun w => by kernel_rfl)) (zspread_any (show Nm _ (Q6.rat u v) a1 ac1 a2 ac2 a3 ac3 a4 ac4 from ⟨⟨(hS.rd 3 rfl), ha.s1.nil, ha.s1.cap⟩, ⟨(hS.rd 2 rfl), ha.s2.nil, ha.s2.cap⟩, ⟨(hS.rd 1 rfl), ha.s3.nil, ha.s3.cap⟩, ⟨(hS.rd 0 rfl), ha.s4.nil, ha.s4.cap⟩⟩) hu hv) ?_
 rintro _ w19 ⟨p14_1, p14_c1, p14_2, p14_c2, p14_3, p14_c3, rfl, hs15, hs16, hs17, hb18⟩
 replace hS := hS.call hb18
 replace hS := hS.addR hs15.rd
 replace hS := hS.addR hs16.rd
 replace hS := hS.addR hs17.rd
 refine ⟨_, rfl, ?_⟩
 intro a hA
 refine seq_do hA rfl rfl rfl (d_move rfl) ?_
 intro a hA
 refine seq_do hA rfl rfl rfl (d_move rfl) ?_
 intro a hA
 refine seq_do (v := .int .i64 (-(((N : Nat) : Int)))) hA rfl rfl rfl (d_un rfl (un_neg (i64In (by omega) (by omega)))) ?_
 intro a hA
 refine seq_do (v := .int .i64 (((N : Nat) : Int))) hA rfl rfl rfl (d_builtin rfl (run_maxI (by split <;> omega))) ?_
 intro a hA
 refine seq_call hA rfl rfl rfl (enters_func  rfl rfl (fun w => by kernel_rfl)) (zpowerF_any (n := N) ⟨(hS.rd 2 rfl), hs15.nil, hs15.cap⟩ ⟨(hS.rd 1 rfl), hs16.nil, hs16.cap⟩ ⟨(hS.rd 0 rfl), hs17.nil, hs17.cap⟩ (spX_len hu hv) (spY_len hu hv) (spD_len hu hv) (spD_ne u v) (spX_mk u v) (spY_mk u v) hu hv h1 h2 hB) ?_
 rintro _ w21 ⟨rfl, hb20⟩
 replace hS := hS.call hb20
 refine ⟨_, rfl, ?_⟩
 intro a hA
 refine seq_do hA rfl rfl rfl (d_move rfl) ?_
 intro a hA
 refine seq_do (v := .agg #[.bool false, .slice none 0 0, .bool false, .slice none 0 0, .slice none 0 0]) hA rfl rfl rfl (d_extract (vs := [.agg #[.bool false, .slice none 0 0, .bool false, .slice none 0 0, .slice none 0 0], .int .i64 4]) rfl rfl) ?_
 intro a hA
 refine seq_do (v := .int .i64 4) hA rfl rfl rfl (d_extract (vs := [.agg #[.bool false, .slice none 0 0, .bool false, .slice none 0 0, .slice none 0 0], .int .i64 4]) rfl rfl) ?_
 intro a hA
 refine seq_new (vs := [.bool false, .slice none 0 0, .bool false, .slice none 0 0, .slice none 0 0]) (t := 55) hA hS rfl rfl rfl (fun g => .pointer (some ⟨g, 0, none⟩)) (d_alloc (z := .agg #[.bool false, .slice none 0 0, .bool false, .slice none 0 0, .slice none 0 0]) (by kernel_rfl) rfl) rfl ?_
 intro g22 w23 hS a hA
 refine seq_store (us := [.bool false, .slice none 0 0, .bool false, .slice none 0 0, .slice none 0 0]) hA hS rfl rfl (sets_store rfl rfl rfl (by kernel_rfl) hS 0 rfl rfl rfl) 0 rfl rfl rfl rfl ?_
 intro w24 hS
 refine seq_do hA rfl rfl rfl (d_assign rfl) ?_
 intro a hA
 refine seq_end ?_
 refine hK13 _ _ ?_
 refine wp_seq_k (fun K25 hK25 => ?_)
 refine wp_seq_k (fun K26 hK26 => ?_)
 refine wp_region_lit ?_
 refine seq_do hA rfl rfl rfl (d_move rfl) ?_
 intro a hA
 refine seq_do (v := .bool true) hA rfl rfl rfl (d_bin rfl rfl (fun w => by kernel_rfl)) ?_
 intro a hA
 refine seq_end ?_
 refine hK26 _ _ ?_
 refine wp_cond_true (hA.ev rfl) ?_
 refine wp_seq_k (fun K27 hK27 => ?_)
 refine wp_region_lit ?_
 refine seq_do (v := .agg #[.bool false, .slice none 0 0, .slice none 0 0, .bool false, .slice none 0 0, .slice none 0 0]) hA rfl rfl rfl (d_build rfl (fun w => by kernel_rfl)) ?_
 intro a hA
 refine seq_do hA rfl rfl rfl (d_move rfl) ?_
 intro a hA
 refine seq_store (us := [.bool false, .slice none 0 0, .slice none 0 0, .bool false, .slice none 0 0, .slice none 0 0]) hA hS rfl rfl (sets_store rfl rfl rfl (by kernel_rfl) hS 1 rfl rfl rfl) 1 rfl rfl rfl rfl ?_
 intro w28 hS
 refine seq_do hA rfl rfl rfl (d_assign rfl) ?_
 intro a hA
 refine seq_end ?_
 refine hK27 _ _ ?_
 refine wp_ret ?_
 refine hret _ _ ?_
 refine ends (v := .tuple #[.agg #[.bool false, .slice none 0 0, .slice none 0 0, .bool false, .slice none 0 0, .slice none 0 0], .int .i64 4]) hA rfl (.cons (res_cell hS ExV_isS_26 rfl 1 rfl (cs := [.bool false, .slice none 0 0, .slice none 0 0, .bool false, .slice none 0 0, .slice none 0 0]) rfl rfl) (.cons (res_tmp rfl) .nil)) rfl ?_
 rw [exptQ_pos hu hv h1 h2, if_neg (by rw [hB]; decide)]
 exact ⟨none, 0, none, 0, none, 0, none, 0, rfl, ⟨(Sc.none _), (Sc.none _), (Sc.none _), (Sc.none _)⟩, hS.bel⟩
theorem exptMT_any {w : World} {u v : Rat} {a1 a2 a3 a4 : Option Addr} {ac1 ac2 ac3 ac4 : Nat} (ha : Nm w (Q6.rat u v) a1 ac1 a2 ac2 a3 ac3 a4 ac4) (hu : fitR u) (hv : fitR v) {N : Nat} (h1 : 1 ≤ N) (h2 : N ≤ 1024) (hz : ¬ (u = 0 ∧ v = 0)) (hB : pwB u v N = true) : Calls Tryz.prog 30 #[numV (Q6.rat u v) a1 ac1 a2 ac2 a3 ac3 a4 ac4, .int .i64 (-((N : Nat) : Int))] w (AnsN w (exptQ (Q6.rat u v) (-((N : Nat) : Int)))) := by
 have k1 : (words u.num.natAbs).length ≤ 512 := hu.1
 have k2 : (words v.num.natAbs).length ≤ 512 := hv.1
 have hS : St w w [] [(a4, words v.den), (a3, words v.num.natAbs), (a2, words u.den), (a1, words u.num.natAbs)] [] := ((((St.start w).addR ha.s1.rd).addR ha.s2.rd).addR ha.s3.rd).addR ha.s4.rd
 refine walk_of (l := [(0, .agg #[.bool (rb u.num), .slice a1 ((words u.num.natAbs).length) ac1, .slice a2 ((words u.den).length) ac2, .bool (rb v.num), .slice a3 ((words v.num.natAbs).length) ac3, .slice a4 ((words v.den).length) ac4]), (1, .int .i64 (-((N : Nat) : Int)))]) Tryz.func30 rfl Tryz.ntmps30 rfl rfl ?_
 intro Q hret hnorm hP a hA
 refine wp_seq_k (fun K1 hK1 => ?_)
 refine wp_region_lit ?_
 refine seq_new hA hS rfl rfl rfl (fun g => .pointer (some ⟨g, 0, none⟩)) (d_box rfl rfl) rfl ?_
 intro g2 w3 hS a hA
 refine seq_new (vs := [.bool false, .slice none 0 0, .slice none 0 0, .bool false, .slice none 0 0, .slice none 0 0]) (t := 26) hA hS rfl rfl rfl (fun g => .pointer (some ⟨g, 0, none⟩)) (d_alloc (z := .agg #[.bool false, .slice none 0 0, .slice none 0 0, .bool false, .slice none 0 0, .slice none 0 0]) (by kernel_rfl) rfl) rfl ?_
 intro g4 w5 hS a hA
 refine seq_do hA rfl rfl rfl (d_assign rfl) ?_
 intro a hA
 refine seq_end ?_
 refine hK1 _ _ ?_
 refine wp_seq_k (fun K6 hK6 => ?_)
 refine wp_block ?_
 refine wp_seq_k (fun K7 hK7 => ?_)
 refine wp_region_lit ?_
 refine seq_do hA rfl rfl rfl (d_loadS hS ExV_isS_26 rfl 1 rfl (cs := [.bool (rb u.num), .slice a1 ((words u.num.natAbs).length) ac1, .slice a2 ((words u.den).length) ac2, .bool (rb v.num), .slice a3 ((words v.num.natAbs).length) ac3, .slice a4 ((words v.den).length) ac4]) rfl rfl) ?_
 intro a hA
 refine seq_call hA rfl rfl rfl (enters_func  rfl rfl (fun w => by kernel_rfl)) (soundQ_any (show Nm _ (Q6.rat u v) a1 ac1 a2 ac2 a3 ac3 a4 ac4 from ⟨⟨(hS.rd 3 rfl), ha.s1.nil, ha.s1.cap⟩, ⟨(hS.rd 2 rfl), ha.s2.nil, ha.s2.cap⟩, ⟨(hS.rd 1 rfl), ha.s3.nil, ha.s3.cap⟩, ⟨(hS.rd 0 rfl), ha.s4.nil, ha.s4.cap⟩⟩) (lenQ_rat hu hv) (soundQ_rat hu hv)) ?_
 rintro _ w9 ⟨rfl, hb8⟩
 replace hS := hS.call hb8
 refine ⟨_, rfl, ?_⟩
 intro a hA
 refine seq_do (v := .bool false) hA rfl rfl rfl (d_un rfl un_not) ?_
 intro a hA
 refine seq_do hA rfl rfl rfl (d_assign rfl) ?_
 intro a hA
 refine seq_end ?_
 refine hK7 _ _ ?_
 refine wp_cond_false (hA.ev rfl) ?_
 refine wp_seq_k (fun K10 hK10 => ?_)
 refine wp_region_lit ?_
 refine seq_do hA rfl rfl rfl (d_move rfl) ?_
 intro a hA
 refine seq_do (v := .bool false) hA rfl rfl rfl (d_bin rfl rfl (fun w => (bin_lss w).trans (by rw [show (decide (-((N : Nat) : Int) < -1024)) = false from (decide_eq_false (by omega))]))) ?_
 intro a hA
 refine seq_do hA rfl rfl rfl (d_move rfl) ?_
 intro a hA
 refine seq_do hA rfl rfl rfl (d_move rfl) ?_
 intro a hA
 refine seq_do (v := .bool false) hA rfl rfl rfl (d_bin rfl rfl (fun w => (bin_gtr w).trans (by rw [show (decide (1024 < -((N : Nat) : Int))) = false from (decide_eq_false (by omega))]))) ?_
 intro a hA
 refine seq_do (v := .bool false) hA rfl rfl rfl (d_pick rfl rfl rfl rfl) ?_
 intro a hA
 refine seq_do hA rfl rfl rfl (d_assign rfl) ?_
 intro a hA
 refine seq_end ?_
 refine hK10 _ _ ?_
 refine wp_cond_false (hA.ev rfl) ?_
 refine wp_seq_k (fun K11 hK11 => ?_)
 refine wp_region_lit ?_
 refine seq_do hA rfl rfl rfl (d_move rfl) ?_
 intro a hA
 refine seq_do (v := .bool false) hA rfl rfl rfl (d_bin rfl rfl (fun w => (bin_eql w).trans (by rw [show ((-((N : Nat) : Int) == 0)) = false from (beq_eq_false_iff_ne.2 (by omega))]))) ?_
 intro a hA
 refine seq_do hA rfl rfl rfl (d_assign rfl) ?_
 intro a hA
 refine seq_end ?_
 refine hK11 _ _ ?_
 refine wp_cond_false (hA.ev rfl) ?_
 refine wp_seq_k (fun K12 hK12 => ?_)
 refine wp_region_lit ?_
 refine seq_do hA rfl rfl rfl (d_move rfl) ?_
 intro a hA
 refine seq_do (v := .bool true) hA rfl rfl rfl (d_bin rfl rfl (fun w => (bin_lss w).trans (by rw [show (decide (-((N : Nat) : Int) < 0)) = true from (decide_eq_true (by omega))]))) ?_
 intro a hA
 refine seq_do hA rfl rfl rfl (d_move rfl) ?_
 intro a hA
 refine seq_do hA rfl rfl rfl (d_loadS hS ExV_isS_26 rfl 1 rfl (cs := [.bool (rb u.num), .slice a1 ((words u.num.natAbs).length) ac1, .slice a2 ((words u.den).length) ac2, .bool (rb v.num), .slice a3 ((words v.num.natAbs).length) ac3, .slice a4 ((words v.den).length) ac4]) rfl rfl) ?_
 intro a hA
 refine seq_call hA rfl rfl rfl (enters_func  rfl rfl (fun w => by kernel_rfl)) ((show Calls Tryz.prog 66 #[.agg #[.bool (rb u.num), .slice a1 ((words u.num.natAbs).length) ac1, .slice a2 ((words u.den).length) ac2, .bool (rb v.num), .slice a3 ((words v.num.natAbs).length) ac3, .slice a4 ((words v.den).length) ac4]] _ (fun e w' => e = .returned (.bool false) ∧ _) from (((zero_rat u v).trans (decide_eq_false hz)) ▸ isZero_any (by omega) (by omega)))) ?_
 rintro _ w14 ⟨rfl, hb13⟩
 replace hS := hS.call hb13
 refine ⟨_, rfl, ?_⟩
 intro a hA
 refine seq_do (v := .bool false) hA rfl rfl rfl (d_pick rfl rfl rfl rfl) ?_
 intro a hA
 refine seq_do hA rfl rfl rfl (d_assign rfl) ?_
 intro a hA
 refine seq_end ?_
 refine hK12 _ _ ?_
 refine wp_cond_false (hA.ev rfl) ?_
 refine wp_skip ?_
 refine hK6 _ _ ?_
 refine wp_seq_k (fun K15 hK15 => ?_)
 refine wp_region_lit ?_
 refine seq_do hA rfl rfl rfl (d_loadS hS ExV_isS_26 rfl 1 rfl (cs := [.bool (rb u.num), .slice a1 ((words u.num.natAbs).length) ac1, .slice a2 ((words u.den).length) ac2, .bool (rb v.num), .slice a3 ((words v.num.natAbs).length) ac3, .slice a4 ((words v.den).length) ac4]) rfl rfl) ?_
 intro a hA
 refine seq_call hA rfl rfl rfl (enters_func  rfl rfl (fun w => by kernel_rfl)) (zspread_any (show Nm _ (Q6.rat u v) a1 ac1 a2 ac2 a3 ac3 a4 ac4 from ⟨⟨(hS.rd 3 rfl), ha.s1.nil, ha.s1.cap⟩, ⟨(hS.rd 2 rfl), ha.s2.nil, ha.s2.cap⟩, ⟨(hS.rd 1 rfl), ha.s3.nil, ha.s3.cap⟩, ⟨(hS.rd 0 rfl), ha.s4.nil, ha.s4.cap⟩⟩) hu hv) ?_
 rintro _ w21 ⟨p16_1, p16_c1, p16_2, p16_c2, p16_3, p16_c3, rfl, hs17, hs18, hs19, hb20⟩
 replace hS := hS.call hb20
 replace hS := hS.addR hs17.rd
 replace hS := hS.addR hs18.rd
 replace hS := hS.addR hs19.rd
 refine ⟨_, rfl, ?_⟩
 intro a hA
 refine seq_do hA rfl rfl rfl (d_move rfl) ?_
 intro a hA
 refine seq_do hA rfl rfl rfl (d_move rfl) ?_
 intro a hA
 refine seq_do (v := .int .i64 (-(-((N : Nat) : Int)))) hA rfl rfl rfl (d_un rfl (un_neg (i64In (by omega) (by omega)))) ?_
 intro a hA
 refine seq_do (v := .int .i64 (((N : Nat) : Int))) hA rfl rfl rfl (d_builtin rfl (run_maxI (by split <;> omega))) ?_
 intro a hA
 refine seq_call hA rfl rfl rfl (enters_func  rfl rfl (fun w => by kernel_rfl)) (zpowerT_any (n := N) ⟨(hS.rd 2 rfl), hs17.nil, hs17.cap⟩ ⟨(hS.rd 1 rfl), hs18.nil, hs18.cap⟩ ⟨(hS.rd 0 rfl), hs19.nil, hs19.cap⟩ (spX_len hu hv) (spY_len hu hv) (spD_len hu hv) (spD_ne u v) (spX_mk u v) (spY_mk u v) hu hv h1 h2 hB) ?_
 rintro _ w26 ⟨X, Y, D, ⟨hD9, hX9, hY9, lX9, lY9, lD9⟩, po1, poc1, po2, poc2, po3, poc3, rfl, hs23, hs24, hs25, hb22⟩
 replace hS := hS.call hb22
 replace hS := hS.addR hs23.rd
 replace hS := hS.addR hs24.rd
 replace hS := hS.addR hs25.rd
 refine ⟨_, rfl, ?_⟩
 intro a hA
 refine seq_do hA rfl rfl rfl (d_move rfl) ?_
 intro a hA
 refine seq_do (v := .agg #[.bool ((rb X)), .slice po1 ((words X.natAbs).length) poc1, .bool ((rb Y)), .slice po2 ((words Y.natAbs).length) poc2, .slice po3 ((words D).length) poc3]) hA rfl rfl rfl (d_extract (vs := [.agg #[.bool ((rb X)), .slice po1 ((words X.natAbs).length) poc1, .bool ((rb Y)), .slice po2 ((words Y.natAbs).length) poc2, .slice po3 ((words D).length) poc3], .int .i64 0]) rfl rfl) ?_
 intro a hA
 refine seq_do (v := .int .i64 0) hA rfl rfl rfl (d_extract (vs := [.agg #[.bool ((rb X)), .slice po1 ((words X.natAbs).length) poc1, .bool ((rb Y)), .slice po2 ((words Y.natAbs).length) poc2, .slice po3 ((words D).length) poc3], .int .i64 0]) rfl rfl) ?_
 intro a hA
 refine seq_new (vs := [.bool false, .slice none 0 0, .bool false, .slice none 0 0, .slice none 0 0]) (t := 55) hA hS rfl rfl rfl (fun g => .pointer (some ⟨g, 0, none⟩)) (d_alloc (z := .agg #[.bool false, .slice none 0 0, .bool false, .slice none 0 0, .slice none 0 0]) (by kernel_rfl) rfl) rfl ?_
 intro g27 w28 hS a hA
 refine seq_store (us := [.bool ((rb X)), .slice po1 ((words X.natAbs).length) poc1, .bool ((rb Y)), .slice po2 ((words Y.natAbs).length) poc2, .slice po3 ((words D).length) poc3]) hA hS rfl rfl (sets_store rfl rfl rfl (by kernel_rfl) hS 0 rfl rfl rfl) 0 rfl rfl rfl rfl ?_
 intro w29 hS
 refine seq_do hA rfl rfl rfl (d_assign rfl) ?_
 intro a hA
 refine seq_end ?_
 refine hK15 _ _ ?_
 refine wp_seq_k (fun K30 hK30 => ?_)
 refine wp_seq_k (fun K31 hK31 => ?_)
 refine wp_region_lit ?_
 refine seq_do hA rfl rfl rfl (d_move rfl) ?_
 intro a hA
 refine seq_do (v := .bool false) hA rfl rfl rfl (d_bin rfl rfl (fun w => by kernel_rfl)) ?_
 intro a hA
 refine seq_end ?_
 refine hK31 _ _ ?_
 refine wp_cond_false (hA.ev rfl) ?_
 refine wp_skip ?_
 refine hK30 _ _ ?_
 refine wp_seq_k (fun K32 hK32 => ?_)
 refine wp_seq_k (fun K33 hK33 => ?_)
 refine wp_region_lit ?_
 refine seq_do hA rfl rfl rfl (d_move rfl) ?_
 intro a hA
 refine seq_do (v := .bool true) hA rfl rfl rfl (d_bin rfl rfl (fun w => (bin_lss w).trans (by rw [show (decide (-((N : Nat) : Int) < 0)) = true from (decide_eq_true (by omega))]))) ?_
 intro a hA
 refine seq_end ?_
 refine hK33 _ _ ?_
 refine wp_cond_true (hA.ev rfl) ?_
 refine wp_region_lit ?_
 refine seq_do hA rfl rfl rfl (d_loadS hS ExV_isS_55 rfl 0 rfl (cs := [.bool ((rb X)), .slice po1 ((words X.natAbs).length) poc1, .bool ((rb Y)), .slice po2 ((words Y.natAbs).length) poc2, .slice po3 ((words D).length) poc3]) rfl rfl) ?_
 intro a hA
 refine seq_call hA rfl rfl rfl (enters_func  rfl rfl (fun w => by kernel_rfl)) (zinv_any ⟨(hS.rd 2 rfl), hs23.nil, hs23.cap⟩ ⟨(hS.rd 1 rfl), hs24.nil, hs24.cap⟩ ⟨(hS.rd 0 rfl), hs25.nil, hs25.cap⟩ (by omega) (by omega) (by omega)) ?_
 rintro _ w39 ⟨p34_1, p34_c1, p34_2, p34_c2, p34_3, p34_c3, rfl, hs35, hs36, hs37, hb38⟩
 replace hS := hS.call hb38
 replace hS := hS.addR hs35.rd
 replace hS := hS.addR hs36.rd
 replace hS := hS.addR hs37.rd
 refine ⟨_, rfl, ?_⟩
 intro a hA
 refine seq_store (us := [.bool ((rb (ivX X Y D))), .slice p34_1 ((words (ivX X Y D).natAbs).length) p34_c1, .bool ((rb (ivY X Y D))), .slice p34_2 ((words (ivY X Y D).natAbs).length) p34_c2, .slice p34_3 ((words (ivD X Y)).length) p34_c3]) hA hS rfl rfl (sets_store rfl rfl rfl (by kernel_rfl) hS 0 rfl rfl rfl) 0 rfl rfl rfl rfl ?_
 intro w40 hS
 refine seq_end ?_
 refine hK32 _ _ ?_
 refine wp_seq_k (fun K41 hK41 => ?_)
 refine wp_region_lit ?_
 refine seq_do hA rfl rfl rfl (d_loadS hS ExV_isS_55 rfl 0 rfl (cs := [.bool ((rb (ivX X Y D))), .slice p34_1 ((words (ivX X Y D).natAbs).length) p34_c1, .bool ((rb (ivY X Y D))), .slice p34_2 ((words (ivY X Y D).natAbs).length) p34_c2, .slice p34_3 ((words (ivD X Y)).length) p34_c3]) rfl rfl) ?_
 intro a hA
 refine seq_call hA rfl rfl rfl (enters_func  rfl rfl (fun w => by kernel_rfl)) (zsettle_as ⟨(hS.rd 2 rfl), hs35.nil, hs35.cap⟩ ⟨(hS.rd 1 rfl), hs36.nil, hs36.cap⟩ ⟨(hS.rd 0 rfl), hs37.nil, hs37.cap⟩ (set_iv hD9 hX9 hY9 (mk_ne hX9 hY9 (pwR_ne hz N))) (Nat.le_trans (ivX_len lX9 lD9) (by decide)) (Nat.le_trans (ivY_len lY9 lD9) (by decide)) (Nat.le_trans (ivD_len lX9 lY9) (by decide)) (ivD_ne (mk_ne hX9 hY9 (pwR_ne hz N)))) ?_
 rintro _ w45 ⟨p42_1, p42_c1, p42_2, p42_c2, p42_3, p42_c3, p42_4, p42_c4, rfl, hn43, hb44⟩
 replace hS := hS.call hb44
 replace hS := hS.addR hn43.s1.rd
 replace hS := hS.addR hn43.s2.rd
 replace hS := hS.addR hn43.s3.rd
 replace hS := hS.addR hn43.s4.rd
 refine ⟨_, rfl, ?_⟩
 intro a hA
 refine seq_do (v := .agg #[.bool ((ratS (ivR (pwR u v N)).1 (ivR (pwR u v N)).2).1.b1), .slice p42_1 (((ratS (ivR (pwR u v N)).1 (ivR (pwR u v N)).2).1.t1).length) p42_c1, .slice p42_2 (((ratS (ivR (pwR u v N)).1 (ivR (pwR u v N)).2).1.q1).length) p42_c2, .bool ((ratS (ivR (pwR u v N)).1 (ivR (pwR u v N)).2).1.b2), .slice p42_3 (((ratS (ivR (pwR u v N)).1 (ivR (pwR u v N)).2).1.t2).length) p42_c3, .slice p42_4 (((ratS (ivR (pwR u v N)).1 (ivR (pwR u v N)).2).1.q2).length) p42_c4]) hA rfl rfl rfl (d_extract (vs := [.agg #[.bool ((ratS (ivR (pwR u v N)).1 (ivR (pwR u v N)).2).1.b1), .slice p42_1 (((ratS (ivR (pwR u v N)).1 (ivR (pwR u v N)).2).1.t1).length) p42_c1, .slice p42_2 (((ratS (ivR (pwR u v N)).1 (ivR (pwR u v N)).2).1.q1).length) p42_c2, .bool ((ratS (ivR (pwR u v N)).1 (ivR (pwR u v N)).2).1.b2), .slice p42_3 (((ratS (ivR (pwR u v N)).1 (ivR (pwR u v N)).2).1.t2).length) p42_c3, .slice p42_4 (((ratS (ivR (pwR u v N)).1 (ivR (pwR u v N)).2).1.q2).length) p42_c4], .int .i64 ((ratS (ivR (pwR u v N)).1 (ivR (pwR u v N)).2).2)]) rfl rfl) ?_
 intro a hA
 refine seq_do (v := .int .i64 ((ratS (ivR (pwR u v N)).1 (ivR (pwR u v N)).2).2)) hA rfl rfl rfl (d_extract (vs := [.agg #[.bool ((ratS (ivR (pwR u v N)).1 (ivR (pwR u v N)).2).1.b1), .slice p42_1 (((ratS (ivR (pwR u v N)).1 (ivR (pwR u v N)).2).1.t1).length) p42_c1, .slice p42_2 (((ratS (ivR (pwR u v N)).1 (ivR (pwR u v N)).2).1.q1).length) p42_c2, .bool ((ratS (ivR (pwR u v N)).1 (ivR (pwR u v N)).2).1.b2), .slice p42_3 (((ratS (ivR (pwR u v N)).1 (ivR (pwR u v N)).2).1.t2).length) p42_c3, .slice p42_4 (((ratS (ivR (pwR u v N)).1 (ivR (pwR u v N)).2).1.q2).length) p42_c4], .int .i64 ((ratS (ivR (pwR u v N)).1 (ivR (pwR u v N)).2).2)]) rfl rfl) ?_
 intro a hA
 refine seq_store (us := [.bool ((ratS (ivR (pwR u v N)).1 (ivR (pwR u v N)).2).1.b1), .slice p42_1 (((ratS (ivR (pwR u v N)).1 (ivR (pwR u v N)).2).1.t1).length) p42_c1, .slice p42_2 (((ratS (ivR (pwR u v N)).1 (ivR (pwR u v N)).2).1.q1).length) p42_c2, .bool ((ratS (ivR (pwR u v N)).1 (ivR (pwR u v N)).2).1.b2), .slice p42_3 (((ratS (ivR (pwR u v N)).1 (ivR (pwR u v N)).2).1.t2).length) p42_c3, .slice p42_4 (((ratS (ivR (pwR u v N)).1 (ivR (pwR u v N)).2).1.q2).length) p42_c4]) hA hS rfl rfl (sets_store rfl rfl rfl (by kernel_rfl) hS 1 rfl rfl rfl) 1 rfl rfl rfl rfl ?_
 intro w46 hS
 refine seq_do hA rfl rfl rfl (d_assign rfl) ?_
 intro a hA
 refine seq_end ?_
 refine hK41 _ _ ?_
 refine wp_ret ?_
 refine hret _ _ ?_
 refine ends (v := .tuple #[.agg #[.bool ((ratS (ivR (pwR u v N)).1 (ivR (pwR u v N)).2).1.b1), .slice p42_1 (((ratS (ivR (pwR u v N)).1 (ivR (pwR u v N)).2).1.t1).length) p42_c1, .slice p42_2 (((ratS (ivR (pwR u v N)).1 (ivR (pwR u v N)).2).1.q1).length) p42_c2, .bool ((ratS (ivR (pwR u v N)).1 (ivR (pwR u v N)).2).1.b2), .slice p42_3 (((ratS (ivR (pwR u v N)).1 (ivR (pwR u v N)).2).1.t2).length) p42_c3, .slice p42_4 (((ratS (ivR (pwR u v N)).1 (ivR (pwR u v N)).2).1.q2).length) p42_c4], .int .i64 ((ratS (ivR (pwR u v N)).1 (ivR (pwR u v N)).2).2)]) hA rfl (.cons (res_cell hS ExV_isS_26 rfl 1 rfl (cs := [.bool ((ratS (ivR (pwR u v N)).1 (ivR (pwR u v N)).2).1.b1), .slice p42_1 (((ratS (ivR (pwR u v N)).1 (ivR (pwR u v N)).2).1.t1).length) p42_c1, .slice p42_2 (((ratS (ivR (pwR u v N)).1 (ivR (pwR u v N)).2).1.q1).length) p42_c2, .bool ((ratS (ivR (pwR u v N)).1 (ivR (pwR u v N)).2).1.b2), .slice p42_3 (((ratS (ivR (pwR u v N)).1 (ivR (pwR u v N)).2).1.t2).length) p42_c3, .slice p42_4 (((ratS (ivR (pwR u v N)).1 (ivR (pwR u v N)).2).1.q2).length) p42_c4]) rfl rfl) (.cons (res_tmp rfl) .nil)) rfl ?_
 rw [exptQ_neg hu hv (by omega) h2 hz, if_pos hB]
 exact ⟨p42_1, p42_c1, p42_2, p42_c2, p42_3, p42_c3, p42_4, p42_c4, rfl, ⟨⟨(hS.rd 3 rfl), hn43.s1.nil, hn43.s1.cap⟩, ⟨(hS.rd 2 rfl), hn43.s2.nil, hn43.s2.cap⟩, ⟨(hS.rd 1 rfl), hn43.s3.nil, hn43.s3.cap⟩, ⟨(hS.rd 0 rfl), hn43.s4.nil, hn43.s4.cap⟩⟩, hS.bel⟩
theorem exptMF_any {w : World} {u v : Rat} {a1 a2 a3 a4 : Option Addr} {ac1 ac2 ac3 ac4 : Nat} (ha : Nm w (Q6.rat u v) a1 ac1 a2 ac2 a3 ac3 a4 ac4) (hu : fitR u) (hv : fitR v) {N : Nat} (h1 : 1 ≤ N) (h2 : N ≤ 1024) (hz : ¬ (u = 0 ∧ v = 0)) (hB : pwB u v N = false) : Calls Tryz.prog 30 #[numV (Q6.rat u v) a1 ac1 a2 ac2 a3 ac3 a4 ac4, .int .i64 (-((N : Nat) : Int))] w (AnsN w (exptQ (Q6.rat u v) (-((N : Nat) : Int)))) := by
 have k1 : (words u.num.natAbs).length ≤ 512 := hu.1
 have k2 : (words v.num.natAbs).length ≤ 512 := hv.1
 have hS : St w w [] [(a4, words v.den), (a3, words v.num.natAbs), (a2, words u.den), (a1, words u.num.natAbs)] [] := ((((St.start w).addR ha.s1.rd).addR ha.s2.rd).addR ha.s3.rd).addR ha.s4.rd
 refine walk_of (l := [(0, .agg #[.bool (rb u.num), .slice a1 ((words u.num.natAbs).length) ac1, .slice a2 ((words u.den).length) ac2, .bool (rb v.num), .slice a3 ((words v.num.natAbs).length) ac3, .slice a4 ((words v.den).length) ac4]), (1, .int .i64 (-((N : Nat) : Int)))]) Tryz.func30 rfl Tryz.ntmps30 rfl rfl ?_
 intro Q hret hnorm hP a hA
 refine wp_seq_k (fun K1 hK1 => ?_)
 refine wp_region_lit ?_
 refine seq_new hA hS rfl rfl rfl (fun g => .pointer (some ⟨g, 0, none⟩)) (d_box rfl rfl) rfl ?_
 intro g2 w3 hS a hA
 refine seq_new (vs := [.bool false, .slice none 0 0, .slice none 0 0, .bool false, .slice none 0 0, .slice none 0 0]) (t := 26) hA hS rfl rfl rfl (fun g => .pointer (some ⟨g, 0, none⟩)) (d_alloc (z := .agg #[.bool false, .slice none 0 0, .slice none 0 0, .bool false, .slice none 0 0, .slice none 0 0]) (by kernel_rfl) rfl) rfl ?_
 intro g4 w5 hS a hA
 refine seq_do hA rfl rfl rfl (d_assign rfl) ?_
 intro a hA
 refine seq_end ?_
 refine hK1 _ _ ?_
 refine wp_seq_k (fun K6 hK6 => ?_)
 refine wp_block ?_
 refine wp_seq_k (fun K7 hK7 => ?_)
 refine wp_region_lit ?_
 refine seq_do hA rfl rfl rfl (d_loadS hS ExV_isS_26 rfl 1 rfl (cs := [.bool (rb u.num), .slice a1 ((words u.num.natAbs).length) ac1, .slice a2 ((words u.den).length) ac2, .bool (rb v.num), .slice a3 ((words v.num.natAbs).length) ac3, .slice a4 ((words v.den).length) ac4]) rfl rfl) ?_
 intro a hA
 refine seq_call hA rfl rfl rfl (enters_func  rfl rfl (fun w => by kernel_rfl)) (soundQ_any (show Nm _ (Q6.rat u v) a1 ac1 a2 ac2 a3 ac3 a4 ac4 from ⟨⟨(hS.rd 3 rfl), ha.s1.nil, ha.s1.cap⟩, ⟨(hS.rd 2 rfl), ha.s2.nil, ha.s2.cap⟩, ⟨(hS.rd 1 rfl), ha.s3.nil, ha.s3.cap⟩, ⟨(hS.rd 0 rfl), ha.s4.nil, ha.s4.cap⟩⟩) (lenQ_rat hu hv) (soundQ_rat hu hv)) ?_
 rintro _ w9 ⟨rfl, hb8⟩
 replace hS := hS.call hb8
 refine ⟨_, rfl, ?_⟩
 intro a hA
 refine seq_do (v := .bool false) hA rfl rfl rfl (d_un rfl un_not) ?_
 intro a hA
 refine seq_do hA rfl rfl rfl (d_assign rfl) ?_
 intro a hA
 refine seq_end ?_
 refine hK7 _ _ ?_
 refine wp_cond_false (hA.ev rfl) ?_
 refine wp_seq_k (fun K10 hK10 => ?_)
 refine wp_region_lit ?_
 refine seq_do hA rfl rfl rfl (d_move rfl) ?_
 intro a hA
 refine seq_do (v := .bool false) hA rfl rfl rfl (d_bin rfl rfl (fun w => (bin_lss w).trans (by rw [show (decide (-((N : Nat) : Int) < -1024)) = false from (decide_eq_false (by omega))]))) ?_
 intro a hA
 refine seq_do hA rfl rfl rfl (d_move rfl) ?_
 intro a hA
 refine seq_do hA rfl rfl rfl (d_move rfl) ?_
 intro a hA
 refine seq_do (v := .bool false) hA rfl rfl rfl (d_bin rfl rfl (fun w => (bin_gtr w).trans (by rw [show (decide (1024 < -((N : Nat) : Int))) = false from (decide_eq_false (by omega))]))) ?_
 intro a hA
 refine seq_do (v := .bool false) hA rfl rfl rfl (d_pick rfl rfl rfl rfl) ?_
 intro a hA
 refine seq_do hA rfl rfl rfl (d_assign rfl) ?_
 intro a hA
 refine seq_end ?_
 refine hK10 _ _ ?_
 refine wp_cond_false (hA.ev rfl) ?_
 refine wp_seq_k (fun K11 hK11 => ?_)
 refine wp_region_lit ?_
 refine seq_do hA rfl rfl rfl (d_move rfl) ?_
 intro a hA
 refine seq_do (v := .bool false) hA rfl rfl rfl (d_bin rfl rfl (fun w => (bin_eql w).trans (by rw [show ((-((N : Nat) : Int) == 0)) = false from (beq_eq_false_iff_ne.2 (by omega))]))) ?_
 intro a hA
 refine seq_do hA rfl rfl rfl (d_assign rfl) ?_
 intro a hA
 refine seq_end ?_
 refine hK11 _ _ ?_
 refine wp_cond_false (hA.ev rfl) ?_
 refine wp_seq_k (fun K12 hK12 => ?_)
 refine wp_region_lit ?_
 refine seq_do hA rfl rfl rfl (d_move rfl) ?_
 intro a hA
 refine seq_do (v := .bool true) hA rfl rfl rfl (d_bin rfl rfl (fun w => (bin_lss w).trans (by rw [show (decide (-((N : Nat) : Int) < 0)) = true from (decide_eq_true (by omega))]))) ?_
 intro a hA
 refine seq_do hA rfl rfl rfl (d_move rfl) ?_
 intro a hA
 refine seq_do hA rfl rfl rfl (d_loadS hS ExV_isS_26 rfl 1 rfl (cs := [.bool (rb u.num), .slice a1 ((words u.num.natAbs).length) ac1, .slice a2 ((words u.den).length) ac2, .bool (rb v.num), .slice a3 ((words v.num.natAbs).length) ac3, .slice a4 ((words v.den).length) ac4]) rfl rfl) ?_
 intro a hA
 refine seq_call hA rfl rfl rfl (enters_func  rfl rfl (fun w => by kernel_rfl)) ((show Calls Tryz.prog 66 #[.agg #[.bool (rb u.num), .slice a1 ((words u.num.natAbs).length) ac1, .slice a2 ((words u.den).length) ac2, .bool (rb v.num), .slice a3 ((words v.num.natAbs).length) ac3, .slice a4 ((words v.den).length) ac4]] _ (fun e w' => e = .returned (.bool false) ∧ _) from (((zero_rat u v).trans (decide_eq_false hz)) ▸ isZero_any (by omega) (by omega)))) ?_
 rintro _ w14 ⟨rfl, hb13⟩
 replace hS := hS.call hb13
 refine ⟨_, rfl, ?_⟩
 intro a hA
 refine seq_do (v := .bool false) hA rfl rfl rfl (d_pick rfl rfl rfl rfl) ?_
 intro a hA
 refine seq_do hA rfl rfl rfl (d_assign rfl) ?_
 intro a hA
 refine seq_end ?_
 refine hK12 _ _ ?_
 refine wp_cond_false (hA.ev rfl) ?_
 refine wp_skip ?_
 refine hK6 _ _ ?_
 refine wp_seq_k (fun K15 hK15 => ?_)
 refine wp_region_lit ?_
 refine seq_do hA rfl rfl rfl (d_loadS hS ExV_isS_26 rfl 1 rfl (cs := [.bool (rb u.num), .slice a1 ((words u.num.natAbs).length) ac1, .slice a2 ((words u.den).length) ac2, .bool (rb v.num), .slice a3 ((words v.num.natAbs).length) ac3, .slice a4 ((words v.den).length) ac4]) rfl rfl) ?_
 intro a hA
 refine seq_call hA rfl rfl rfl (enters_func  rfl rfl (fun w => by kernel_rfl)) (zspread_any (show Nm _ (Q6.rat u v) a1 ac1 a2 ac2 a3 ac3 a4 ac4 from ⟨⟨(hS.rd 3 rfl), ha.s1.nil, ha.s1.cap⟩, ⟨(hS.rd 2 rfl), ha.s2.nil, ha.s2.cap⟩, ⟨(hS.rd 1 rfl), ha.s3.nil, ha.s3.cap⟩, ⟨(hS.rd 0 rfl), ha.s4.nil, ha.s4.cap⟩⟩) hu hv) ?_
 rintro _ w21 ⟨p16_1, p16_c1, p16_2, p16_c2, p16_3, p16_c3, rfl, hs17, hs18, hs19, hb20⟩
 replace hS := hS.call hb20
 replace hS := hS.addR hs17.rd
 replace hS := hS.addR hs18.rd
 replace hS := hS.addR hs19.rd
 refine ⟨_, rfl, ?_⟩
 intro a hA
 refine seq_do hA rfl rfl rfl (d_move rfl) ?_
 intro a hA
 refine seq_do hA rfl rfl rfl (d_move rfl) ?_
 intro a hA
 refine seq_do (v := .int .i64 (-(-((N : Nat) : Int)))) hA rfl rfl rfl (d_un rfl (un_neg (i64In (by omega) (by omega)))) ?_
 intro a hA
 refine seq_do (v := .int .i64 (((N : Nat) : Int))) hA rfl rfl rfl (d_builtin rfl (run_maxI (by split <;> omega))) ?_
 intro a hA
 refine seq_call hA rfl rfl rfl (enters_func  rfl rfl (fun w => by kernel_rfl)) (zpowerF_any (n := N) ⟨(hS.rd 2 rfl), hs17.nil, hs17.cap⟩ ⟨(hS.rd 1 rfl), hs18.nil, hs18.cap⟩ ⟨(hS.rd 0 rfl), hs19.nil, hs19.cap⟩ (spX_len hu hv) (spY_len hu hv) (spD_len hu hv) (spD_ne u v) (spX_mk u v) (spY_mk u v) hu hv h1 h2 hB) ?_
 rintro _ w23 ⟨rfl, hb22⟩
 replace hS := hS.call hb22
 refine ⟨_, rfl, ?_⟩
 intro a hA
 refine seq_do hA rfl rfl rfl (d_move rfl) ?_
 intro a hA
 refine seq_do (v := .agg #[.bool false, .slice none 0 0, .bool false, .slice none 0 0, .slice none 0 0]) hA rfl rfl rfl (d_extract (vs := [.agg #[.bool false, .slice none 0 0, .bool false, .slice none 0 0, .slice none 0 0], .int .i64 4]) rfl rfl) ?_
 intro a hA
 refine seq_do (v := .int .i64 4) hA rfl rfl rfl (d_extract (vs := [.agg #[.bool false, .slice none 0 0, .bool false, .slice none 0 0, .slice none 0 0], .int .i64 4]) rfl rfl) ?_
 intro a hA
 refine seq_new (vs := [.bool false, .slice none 0 0, .bool false, .slice none 0 0, .slice none 0 0]) (t := 55) hA hS rfl rfl rfl (fun g => .pointer (some ⟨g, 0, none⟩)) (d_alloc (z := .agg #[.bool false, .slice none 0 0, .bool false, .slice none 0 0, .slice none 0 0]) (by kernel_rfl) rfl) rfl ?_
 intro g24 w25 hS a hA
 refine seq_store (us := [.bool false, .slice none 0 0, .bool false, .slice none 0 0, .slice none 0 0]) hA hS rfl rfl (sets_store rfl rfl rfl (by kernel_rfl) hS 0 rfl rfl rfl) 0 rfl rfl rfl rfl ?_
 intro w26 hS
 refine seq_do hA rfl rfl rfl (d_assign rfl) ?_
 intro a hA
 refine seq_end ?_
 refine hK15 _ _ ?_
 refine wp_seq_k (fun K27 hK27 => ?_)
 refine wp_seq_k (fun K28 hK28 => ?_)
 refine wp_region_lit ?_
 refine seq_do hA rfl rfl rfl (d_move rfl) ?_
 intro a hA
 refine seq_do (v := .bool true) hA rfl rfl rfl (d_bin rfl rfl (fun w => by kernel_rfl)) ?_
 intro a hA
 refine seq_end ?_
 refine hK28 _ _ ?_
 refine wp_cond_true (hA.ev rfl) ?_
 refine wp_seq_k (fun K29 hK29 => ?_)
 refine wp_region_lit ?_
 refine seq_do (v := .agg #[.bool false, .slice none 0 0, .slice none 0 0, .bool false, .slice none 0 0, .slice none 0 0]) hA rfl rfl rfl (d_build rfl (fun w => by kernel_rfl)) ?_
 intro a hA
 refine seq_do hA rfl rfl rfl (d_move rfl) ?_
 intro a hA
 refine seq_store (us := [.bool false, .slice none 0 0, .slice none 0 0, .bool false, .slice none 0 0, .slice none 0 0]) hA hS rfl rfl (sets_store rfl rfl rfl (by kernel_rfl) hS 1 rfl rfl rfl) 1 rfl rfl rfl rfl ?_
 intro w30 hS
 refine seq_do hA rfl rfl rfl (d_assign rfl) ?_
 intro a hA
 refine seq_end ?_
 refine hK29 _ _ ?_
 refine wp_ret ?_
 refine hret _ _ ?_
 refine ends (v := .tuple #[.agg #[.bool false, .slice none 0 0, .slice none 0 0, .bool false, .slice none 0 0, .slice none 0 0], .int .i64 4]) hA rfl (.cons (res_cell hS ExV_isS_26 rfl 1 rfl (cs := [.bool false, .slice none 0 0, .slice none 0 0, .bool false, .slice none 0 0, .slice none 0 0]) rfl rfl) (.cons (res_tmp rfl) .nil)) rfl ?_
 rw [exptQ_neg hu hv (by omega) h2 hz, if_neg (by rw [hB]; decide)]
 exact ⟨none, 0, none, 0, none, 0, none, 0, rfl, ⟨(Sc.none _), (Sc.none _), (Sc.none _), (Sc.none _)⟩, hS.bel⟩
theorem exptQ_any {w : World} {q : Q6} {a1 a2 a3 a4 : Option Addr} {ac1 ac2 ac3 ac4 : Nat} (ha : Nm w q a1 ac1 a2 ac2 a3 ac3 a4 ac4) (hl : LenQ q) {n : Int} : Calls Tryz.prog 30 #[numV q a1 ac1 a2 ac2 a3 ac3 a4 ac4, .int .i64 n] w (AnsN w (exptQ q n)) := by
  rcases sound_cases ha with hs | ⟨u, v, rfl, hu, hv⟩
  · exact exptE_any ha hl hs
  by_cases n1 : n < -1024
  · exact exptA1_any ha hu hv n1
  by_cases n2 : 1024 < n
  · exact exptA2_any ha hu hv n2
  by_cases n3 : n = 0
  · subst n3
    exact expt0_any ha hu hv
  by_cases n4 : n < 0
  · obtain ⟨N, rfl⟩ : ∃ N : Nat, n = -(N : Int) := ⟨n.natAbs, by omega⟩
    by_cases hz : u = 0 ∧ v = 0
    · exact exptZ_any ha hu hv (by omega) (by omega) hz
    · cases hB : pwB u v N with
      | true => exact exptMT_any ha hu hv (by omega) (by omega) hz hB
      | false => exact exptMF_any ha hu hv (by omega) (by omega) hz hB
  · obtain ⟨N, rfl⟩ : ∃ N : Nat, n = (N : Int) := ⟨n.natAbs, by omega⟩
    cases hB : pwB u v N with
    | true => exact exptPT_any ha hu hv (by omega) (by omega) hB
    | false => exact exptPF_any ha hu hv (by omega) (by omega) hB
theorem exptQ_as {w : World} {q : Q6} {a1 a2 a3 a4 : Option Addr} {ac1 ac2 ac3 ac4 : Nat} (ha : Nm w q a1 ac1 a2 ac2 a3 ac3 a4 ac4) (hl : LenQ q) {n : Int} {z : Q6 × Int} (hz : exptQ q n = z) : Calls Tryz.prog 30 #[numV q a1 ac1 a2 ac2 a3 ac3 a4 ac4, .int .i64 n] w (AnsN w z) := hz ▸ exptQ_any ha hl
end Go.Proofs.YthlkbnhbmfmchaaGreat
