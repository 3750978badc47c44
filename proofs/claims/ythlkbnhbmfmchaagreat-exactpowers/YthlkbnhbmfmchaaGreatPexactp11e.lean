/- Walks of the document's Expt of numbers that are not real, and of any number. The walk of the law of powers. Numbers that come in as arguments. -/
import Derived.Test.YthlkbnhbmfmchaaGreatPexactp11d
import Derived.Test.YthlkbnhbmfmchaaGreatPexactp11a
import Derived.Test.YthlkbnhbmfmchaaGreatArgs
import Derived.WalkKit
import Derived.ProofKit
import Derived.OpenShut
import Derived.ChangeOld
import Derived.Lib.SmallJoins
import Derived.Deep.Strs
namespace Go.Proofs.YthlkbnhbmfmchaaGreat
open Go.RowKit
set_option linter.unusedVariables false
set_option linter.unusedSimpArgs false
set_option maxRecDepth 100000
theorem SmI_isS_26 : IsS Tryz.prog 26 6 := ⟨⟨_, Tryz.underlying26⟩, by kernel_rfl⟩
theorem lenR_subA {u v : Rat} {k : Nat} (hu : LenR k u) (hv : LenR k v) : LenR (k + k + 1) (u - v) := by
  rw [Rat.sub_eq_add_neg]
  exact lenR_add hu (lenR_neg hv)
set_option maxHeartbeats 2000000 in
theorem rexCP_any {w : World} {u v : Rat} {a1 a2 a3 a4 : Option Addr} {ac1 ac2 ac3 ac4 : Nat} (ha : Nm w (Q6.rat u v) a1 ac1 a2 ac2 a3 ac3 a4 ac4) (hu : fitR u) (hv : fitR v) {N : Nat} (h1 : 1 ≤ N) (h2 : N ≤ 1024) (k2 : decide ((Q6.rat u v).t2.length = 0) = false) (LU : LenR 512 u) (LV : LenR 512 v) : Calls Tryz.prog 31 #[numV (Q6.rat u v) a1 ac1 a2 ac2 a3 ac3 a4 ac4, .int .i64 (((N : Nat) : Int))] w (AnsN w (exptQ (Q6.rat u v) (((N : Nat) : Int)))) := by
 have hS : St w w [] [(a4, words v.den), (a3, words v.num.natAbs), (a2, words u.den), (a1, words u.num.natAbs)] [] := ((((St.start w).addR ha.s1.rd).addR ha.s2.rd).addR ha.s3.rd).addR ha.s4.rd
 refine walk_of (l := [(0, .agg #[.bool (rb u.num), .slice a1 ((words u.num.natAbs).length) ac1, .slice a2 ((words u.den).length) ac2, .bool (rb v.num), .slice a3 ((words v.num.natAbs).length) ac3, .slice a4 ((words v.den).length) ac4]), (1, .int .i64 (((N : Nat) : Int)))]) Tryz.func31 rfl Tryz.ntmps31 rfl rfl ?_
 intro Q hret hnorm hP a hA
 refine wp_seq_k (fun K1 hK1 => ?_)
 refine wp_region_lit ?_
 refine seq_new hA hS rfl rfl rfl (fun g => .pointer (some ⟨g, 0, none⟩)) (d_box rfl rfl) rfl ?_
 intro g2 w3 hS a hA
 refine seq_new (vs := [.bool false, .slice none 0 0, .slice none 0 0, .bool false, .slice none 0 0, .slice none 0 0]) (t := 26) hA hS rfl rfl rfl (fun g => .pointer (some ⟨g, 0, none⟩)) (d_alloc (z := .agg #[.bool false, .slice none 0 0, .slice none 0 0, .bool false, .slice none 0 0, .slice none 0 0]) (by kernel_rfl) rfl) rfl ?_
 intro g4 w5 hS a hA
 refine seq_do hA rfl rfl rfl (d_assign rfl) ?_
 intro a hA
 refine seq_end ?_
 refine hK1 _ _ ?_
 refine wp_seq_k (fun K6 hK6 => ?_)
 refine wp_seq_k (fun K7 hK7 => ?_)
 refine wp_region_lit ?_
 refine seq_do hA rfl rfl rfl (d_loadS hS SmI_isS_26 rfl 1 rfl (cs := [.bool (rb u.num), .slice a1 ((words u.num.natAbs).length) ac1, .slice a2 ((words u.den).length) ac2, .bool (rb v.num), .slice a3 ((words v.num.natAbs).length) ac3, .slice a4 ((words v.den).length) ac4]) rfl rfl) ?_
 intro a hA
 refine seq_call hA rfl rfl rfl (enters_func  rfl rfl (fun w => by kernel_rfl)) (rsoundQ_any (show Nm _ (Q6.rat u v) a1 ac1 a2 ac2 a3 ac3 a4 ac4 from ⟨⟨(hS.rd 3 rfl), ha.s1.nil, ha.s1.cap⟩, ⟨(hS.rd 2 rfl), ha.s2.nil, ha.s2.cap⟩, ⟨(hS.rd 1 rfl), ha.s3.nil, ha.s3.cap⟩, ⟨(hS.rd 0 rfl), ha.s4.nil, ha.s4.cap⟩⟩) (lenQ_rat hu hv) (soundQ_rat hu hv)) ?_
 rintro _ w9 ⟨rfl, hb8⟩
 replace hS := hS.call hb8
 refine ⟨_, rfl, ?_⟩
 intro a hA
 refine seq_do (v := .bool false) hA rfl rfl rfl (d_un rfl un_not) ?_
 intro a hA
 refine seq_end ?_
 refine hK7 _ _ ?_
 refine wp_cond_false (hA.ev rfl) ?_
 refine wp_skip ?_
 refine hK6 _ _ ?_
 refine wp_seq_k (fun K10 hK10 => ?_)
 refine wp_seq_k (fun K11 hK11 => ?_)
 refine wp_region_lit ?_
 refine seq_do hA rfl rfl rfl (d_move rfl) ?_
 intro a hA
 refine seq_do (v := .bool false) hA rfl rfl rfl (d_bin rfl rfl (fun w => (bin_lss w).trans (by rw [show (decide (((N : Nat) : Int) < -1024)) = false from (decide_eq_false (by omega))]))) ?_
 intro a hA
 refine seq_do hA rfl rfl rfl (d_move rfl) ?_
 intro a hA
 refine seq_do hA rfl rfl rfl (d_move rfl) ?_
 intro a hA
 refine seq_do (v := .bool false) hA rfl rfl rfl (d_bin rfl rfl (fun w => (bin_gtr w).trans (by rw [show (decide (1024 < ((N : Nat) : Int))) = false from (decide_eq_false (by omega))]))) ?_
 intro a hA
 refine seq_do (v := .bool false) hA rfl rfl rfl (d_pick rfl rfl rfl rfl) ?_
 intro a hA
 refine seq_end ?_
 refine hK11 _ _ ?_
 refine wp_cond_false (hA.ev rfl) ?_
 refine wp_skip ?_
 refine hK10 _ _ ?_
 refine wp_seq_k (fun K12 hK12 => ?_)
 refine wp_seq_k (fun K13 hK13 => ?_)
 refine wp_region_lit ?_
 refine seq_do hA rfl rfl rfl (d_move rfl) ?_
 intro a hA
 refine seq_do (v := .bool false) hA rfl rfl rfl (d_bin rfl rfl (fun w => (bin_eql w).trans (by rw [show ((((N : Nat) : Int) == 0)) = false from (beq_eq_false_iff_ne.2 (by omega))]))) ?_
 intro a hA
 refine seq_end ?_
 refine hK13 _ _ ?_
 refine wp_cond_false (hA.ev rfl) ?_
 refine wp_skip ?_
 refine hK12 _ _ ?_
 refine wp_seq_k (fun K14 hK14 => ?_)
 refine wp_seq_k (fun K15 hK15 => ?_)
 have hJ21 : ∀ a w1, (Sl a 87 [(0, .agg #[.bool (rb u.num), .slice a1 ((words u.num.natAbs).length) ac1, .slice a2 ((words u.den).length) ac2, .bool (rb v.num), .slice a3 ((words v.num.natAbs).length) ac3, .slice a4 ((words v.den).length) ac4]), (1, .int .i64 (((N : Nat) : Int))), (2, .pointer (some ⟨g2, 0, none⟩)), (4, .pointer (some ⟨g4, 0, none⟩)), (5, .int .i64 0), (9, .agg #[.bool (rb u.num), .slice a1 ((words u.num.natAbs).length) ac1, .slice a2 ((words u.den).length) ac2, .bool (rb v.num), .slice a3 ((words v.num.natAbs).length) ac3, .slice a4 ((words v.den).length) ac4]), (10, .bool true), (11, .bool false), (13, .int .i64 (((N : Nat) : Int))), (14, .bool false), (15, .bool false), (16, .int .i64 (((N : Nat) : Int))), (17, .bool false), (18, .bool false), (20, .int .i64 (((N : Nat) : Int))), (21, .bool false), (28, .bool false)] ∧ St w w1 [(g4, [.bool false, .slice none 0 0, .slice none 0 0, .bool false, .slice none 0 0, .slice none 0 0]), (g2, [.bool (rb u.num), .slice a1 ((words u.num.natAbs).length) ac1, .slice a2 ((words u.den).length) ac2, .bool (rb v.num), .slice a3 ((words v.num.natAbs).length) ac3, .slice a4 ((words v.den).length) ac4])] [(a4, words v.den), (a3, words v.num.natAbs), (a2, words u.den), (a1, words u.num.natAbs)] []) → K15 a w1 := by
   clear hA hS
   rintro a w22 ⟨hA, hS⟩
   refine hK15 _ _ ?_
   refine wp_cond_false (hA.ev rfl) ?_
   refine wp_skip ?_
   refine hK14 _ _ ?_
   refine wp_seq_k (fun K23 hK23 => ?_)
   refine wp_region_lit ?_
   refine seq_do hA rfl rfl rfl (d_move rfl) ?_
   intro a hA
   refine seq_do hA rfl rfl rfl (d_assign rfl) ?_
   intro a hA
   refine seq_end ?_
   refine hK23 _ _ ?_
   refine wp_seq_k (fun K24 hK24 => ?_)
   refine wp_seq_k (fun K25 hK25 => ?_)
   refine wp_region_lit ?_
   refine seq_do hA rfl rfl rfl (d_move rfl) ?_
   intro a hA
   refine seq_do (v := .bool false) hA rfl rfl rfl (d_bin rfl rfl (fun w => (bin_lss w).trans (by rw [show (decide (((N : Nat) : Int) < 0)) = false from (decide_eq_false (by omega))]))) ?_
   intro a hA
   refine seq_end ?_
   refine hK25 _ _ ?_
   refine wp_cond_false (hA.ev rfl) ?_
   refine wp_skip ?_
   refine hK24 _ _ ?_
   refine wp_seq_k (fun K26 hK26 => ?_)
   refine wp_region_lit ?_
   refine seq_call hA rfl rfl rfl (enters_func  rfl rfl (fun w => by kernel_rfl)) (rint1c_any) ?_
   rintro _ w30 ⟨p27_1, p27_c1, p27_2, p27_c2, p27_3, p27_c3, p27_4, p27_c4, rfl, hn28, hb29⟩
   replace hS := hS.call hb29
   replace hS := hS.addR hn28.s1.rd
   replace hS := hS.addR hn28.s2.rd
   replace hS := hS.addR hn28.s3.rd
   replace hS := hS.addR hn28.s4.rd
   refine ⟨_, rfl, ?_⟩
   intro a hA
   refine seq_new (vs := [.bool false, .slice none 0 0, .slice none 0 0, .bool false, .slice none 0 0, .slice none 0 0]) (t := 26) hA hS rfl rfl rfl (fun g => .pointer (some ⟨g, 0, none⟩)) (d_alloc (z := .agg #[.bool false, .slice none 0 0, .slice none 0 0, .bool false, .slice none 0 0, .slice none 0 0]) (by kernel_rfl) rfl) rfl ?_
   intro g31 w32 hS a hA
   refine seq_store (us := [.bool (rb (1 : Rat).num), .slice p27_1 ((words (1 : Rat).num.natAbs).length) p27_c1, .slice p27_2 ((words (1 : Rat).den).length) p27_c2, .bool (rb (0 : Rat).num), .slice p27_3 ((words (0 : Rat).num.natAbs).length) p27_c3, .slice p27_4 ((words (0 : Rat).den).length) p27_c4]) hA hS rfl rfl (sets_store rfl rfl rfl (by kernel_rfl) hS 0 rfl rfl rfl) 0 rfl rfl rfl rfl ?_
   intro w33 hS
   refine seq_end ?_
   refine hK26 _ _ ?_
   refine wp_seq_k (fun K34 hK34 => ?_)
   refine wp_seq_k (fun K35 hK35 => ?_)
   refine wp_region_lit ?_
   refine seq_do hA rfl rfl rfl (d_assign rfl) ?_
   intro a hA
   refine seq_end ?_
   refine hK35 _ _ ?_
   refine wp_block ?_
   refine wp_loop_n (fun m a w1 => ∃ (i : Nat) (A : Rat) (B : Rat) (po1 : Option Addr) (poc1 : Nat) (po2 : Option Addr) (poc2 : Nat) (po3 : Option Addr) (poc3 : Nat) (po4 : Option Addr) (poc4 : Nat), m = N - i ∧ (i ≤ N ∧ pwR u v i = (A, B) ∧ pwB u v i = true ∧ LenR 512 A ∧ LenR 512 B ∧ Ncap po1 poc1 (words A.num.natAbs) ∧ Ncap po2 poc2 (words A.den) ∧ Ncap po3 poc3 (words B.num.natAbs) ∧ Ncap po4 poc4 (words B.den)) ∧ Sl a 87 [(0, .agg #[.bool (rb u.num), .slice a1 ((words u.num.natAbs).length) ac1, .slice a2 ((words u.den).length) ac2, .bool (rb v.num), .slice a3 ((words v.num.natAbs).length) ac3, .slice a4 ((words v.den).length) ac4]), (1, .int .i64 (((N : Nat) : Int))), (2, .pointer (some ⟨g2, 0, none⟩)), (4, .pointer (some ⟨g4, 0, none⟩)), (6, .int .i64 (((N : Nat) : Int))), (7, .pointer (some ⟨g31, 0, none⟩)), (8, .int .i64 (((i : Nat) : Int))), (9, .agg #[.bool (rb u.num), .slice a1 ((words u.num.natAbs).length) ac1, .slice a2 ((words u.den).length) ac2, .bool (rb v.num), .slice a3 ((words v.num.natAbs).length) ac3, .slice a4 ((words v.den).length) ac4]), (10, .bool true), (11, .bool false), (13, .int .i64 (((N : Nat) : Int))), (14, .bool false), (15, .bool false), (16, .int .i64 (((N : Nat) : Int))), (17, .bool false), (18, .bool false), (20, .int .i64 (((N : Nat) : Int))), (21, .bool false), (28, .bool false), (30, .int .i64 (((N : Nat) : Int))), (31, .int .i64 (((N : Nat) : Int))), (32, .bool false), (35, .agg #[.bool (rb (1 : Rat).num), .slice p27_1 ((words (1 : Rat).num.natAbs).length) p27_c1, .slice p27_2 ((words (1 : Rat).den).length) p27_c2, .bool (rb (0 : Rat).num), .slice p27_3 ((words (0 : Rat).num.natAbs).length) p27_c3, .slice p27_4 ((words (0 : Rat).den).length) p27_c4])] ∧ St w w1 [(g31, [.bool (rb A.num), .slice po1 ((words A.num.natAbs).length) poc1, .slice po2 ((words A.den).length) poc2, .bool (rb B.num), .slice po3 ((words B.num.natAbs).length) poc3, .slice po4 ((words B.den).length) poc4]), (g4, [.bool false, .slice none 0 0, .slice none 0 0, .bool false, .slice none 0 0, .slice none 0 0]), (g2, [.bool (rb u.num), .slice a1 ((words u.num.natAbs).length) ac1, .slice a2 ((words u.den).length) ac2, .bool (rb v.num), .slice a3 ((words v.num.natAbs).length) ac3, .slice a4 ((words v.den).length) ac4])] [(po1, words A.num.natAbs), (po2, words A.den), (po3, words B.num.natAbs), (po4, words B.den), (p27_4, words (0 : Rat).den), (p27_3, words (0 : Rat).num.natAbs), (p27_2, words (1 : Rat).den), (p27_1, words (1 : Rat).num.natAbs), (a4, words v.den), (a3, words v.num.natAbs), (a2, words u.den), (a1, words u.num.natAbs)] []) _ ⟨0, 1, 0, p27_1, p27_c1, p27_2, p27_c2, p27_3, p27_c3, p27_4, p27_c4, rfl, ⟨by omega, rfl, rfl, len_one, len_zero, ⟨hn28.s1.nil, hn28.s1.cap⟩, ⟨hn28.s2.nil, hn28.s2.cap⟩, ⟨hn28.s3.nil, hn28.s3.cap⟩, ⟨hn28.s4.nil, hn28.s4.cap⟩⟩, hA.keep _ ⟨rfl, rfl, rfl, rfl, rfl, rfl, rfl, rfl, rfl, rfl, rfl, rfl, rfl, rfl, rfl, rfl, rfl, rfl, rfl, rfl, rfl, rfl, rfl, trivial⟩, ((hS.pickR [(p27_1, words (1 : Rat).num.natAbs), (p27_2, words (1 : Rat).den), (p27_3, words (0 : Rat).num.natAbs), (p27_4, words (0 : Rat).den), (p27_4, words (0 : Rat).den), (p27_3, words (0 : Rat).num.natAbs), (p27_2, words (1 : Rat).den), (p27_1, words (1 : Rat).num.natAbs), (a4, words v.den), (a3, words v.num.natAbs), (a2, words u.den), (a1, words u.num.natAbs)] ⟨⟨3, rfl⟩, ⟨⟨2, rfl⟩, ⟨⟨1, rfl⟩, ⟨⟨0, rfl⟩, ⟨⟨0, rfl⟩, ⟨⟨1, rfl⟩, ⟨⟨2, rfl⟩, ⟨⟨3, rfl⟩, ⟨⟨4, rfl⟩, ⟨⟨5, rfl⟩, ⟨⟨6, rfl⟩, ⟨⟨7, rfl⟩, trivial⟩⟩⟩⟩⟩⟩⟩⟩⟩⟩⟩⟩).subL _ (.refl _))⟩ ?_
   clear hS hA
   rintro m a w36 ⟨i, A, B, po1, poc1, po2, poc2, po3, poc3, po4, poc4, rfl, hinv38, hA, hS⟩ K37 hK37
   obtain ⟨hi9, hp9, hB9, LA, LB, kn1, kn2, kn3, kn4⟩ := hinv38
   have LA9 : LenR 9000 (A * u - B * v) := (lenR_subA (lenR_mul LA LU) (lenR_mul LB LV)).mono (by decide)
   have LB9 : LenR 9000 (A * v + B * u) := (lenR_add (lenR_mul LA LV) (lenR_mul LB LU)).mono (by decide)
   have hs9 : pwR u v (i + 1) = (A * u - B * v, A * v + B * u) := by
     show ((pwR u v i).1 * u - (pwR u v i).2 * v, (pwR u v i).1 * v + (pwR u v i).2 * u) = _
     rw [hp9]
   refine wp_seq_k (fun K39 hK39 => ?_)
   refine wp_seq_k (fun K40 hK40 => ?_)
   refine wp_region_lit ?_
   refine seq_do hA rfl rfl rfl (d_move rfl) ?_
   intro a hA
   refine seq_do hA rfl rfl rfl (d_move rfl) ?_
   intro a hA
   rcases Bool.eq_false_or_eq_true (decide (((i : Nat) : Int) < ((N : Nat) : Int))) with hb41 | hb41
   · have hb41' := of_decide_eq_true hb41
     refine seq_do (v := .bool true) hA rfl rfl rfl (d_bin rfl rfl (fun w => (bin_lss w).trans (by rw [hb41]))) ?_
     intro a hA
     refine seq_end ?_
     refine hK40 _ _ ?_
     refine wp_cond_true (hA.ev rfl) ?_
     refine wp_skip ?_
     refine hK39 _ _ ?_
     refine wp_seq_k (fun K42 hK42 => ?_)
     refine wp_block ?_
     refine wp_seq_k (fun K43 hK43 => ?_)
     refine wp_seq_k (fun K44 hK44 => ?_)
     refine wp_region_lit ?_
     refine seq_do hA rfl rfl rfl (d_loadS hS SmI_isS_26 rfl 2 rfl (cs := [.bool (rb u.num), .slice a1 ((words u.num.natAbs).length) ac1, .slice a2 ((words u.den).length) ac2, .bool (rb v.num), .slice a3 ((words v.num.natAbs).length) ac3, .slice a4 ((words v.den).length) ac4]) rfl rfl) ?_
     intro a hA
     refine seq_call hA rfl rfl rfl (enters_func  rfl rfl (fun w => by kernel_rfl)) (rrealQ_any (show Nm _ (Q6.rat u v) a1 ac1 a2 ac2 a3 ac3 a4 ac4 from ⟨⟨(hS.rd 11 rfl), ha.s1.nil, ha.s1.cap⟩, ⟨(hS.rd 10 rfl), ha.s2.nil, ha.s2.cap⟩, ⟨(hS.rd 9 rfl), ha.s3.nil, ha.s3.cap⟩, ⟨(hS.rd 8 rfl), ha.s4.nil, ha.s4.cap⟩⟩) (lenQ_rat hu hv) k2) ?_
     rintro _ w46 ⟨rfl, hb45⟩
     replace hS := hS.call hb45
     refine ⟨_, rfl, ?_⟩
     intro a hA
     refine seq_end ?_
     refine hK44 _ _ ?_
     refine wp_cond_false (hA.ev rfl) ?_
     refine wp_region_lit ?_
     refine seq_do hA rfl rfl rfl (d_loadS hS SmI_isS_26 rfl 0 rfl (cs := [.bool (rb A.num), .slice po1 ((words A.num.natAbs).length) poc1, .slice po2 ((words A.den).length) poc2, .bool (rb B.num), .slice po3 ((words B.num.natAbs).length) poc3, .slice po4 ((words B.den).length) poc4]) rfl rfl) ?_
     intro a hA
     refine seq_do hA rfl rfl rfl (d_loadS hS SmI_isS_26 rfl 2 rfl (cs := [.bool (rb u.num), .slice a1 ((words u.num.natAbs).length) ac1, .slice a2 ((words u.den).length) ac2, .bool (rb v.num), .slice a3 ((words v.num.natAbs).length) ac3, .slice a4 ((words v.den).length) ac4]) rfl rfl) ?_
     intro a hA
     refine seq_call hA rfl rfl rfl (enters_func  rfl rfl (fun w => by kernel_rfl)) (rtimesQ_any (show Nm _ (Q6.rat A B) po1 poc1 po2 poc2 po3 poc3 po4 poc4 from ⟨⟨(hS.rd 0 rfl), kn1.1, kn1.2⟩, ⟨(hS.rd 1 rfl), kn2.1, kn2.2⟩, ⟨(hS.rd 2 rfl), kn3.1, kn3.2⟩, ⟨(hS.rd 3 rfl), kn4.1, kn4.2⟩⟩) (show Nm _ (Q6.rat u v) a1 ac1 a2 ac2 a3 ac3 a4 ac4 from ⟨⟨(hS.rd 11 rfl), ha.s1.nil, ha.s1.cap⟩, ⟨(hS.rd 10 rfl), ha.s2.nil, ha.s2.cap⟩, ⟨(hS.rd 9 rfl), ha.s3.nil, ha.s3.cap⟩, ⟨(hS.rd 8 rfl), ha.s4.nil, ha.s4.cap⟩⟩) LA LB (LU.mono (by decide)) (LV.mono (by decide))) ?_
     rintro _ w50 ⟨p47_1, p47_c1, p47_2, p47_c2, p47_3, p47_c3, p47_4, p47_c4, rfl, hn48, hb49⟩
     replace hS := hS.call hb49
     replace hS := hS.addR hn48.s1.rd
     replace hS := hS.addR hn48.s2.rd
     replace hS := hS.addR hn48.s3.rd
     replace hS := hS.addR hn48.s4.rd
     refine ⟨_, rfl, ?_⟩
     intro a hA
     refine seq_store (us := [.bool (rb (A * u - B * v).num), .slice p47_1 ((words (A * u - B * v).num.natAbs).length) p47_c1, .slice p47_2 ((words (A * u - B * v).den).length) p47_c2, .bool (rb (A * v + B * u).num), .slice p47_3 ((words (A * v + B * u).num.natAbs).length) p47_c3, .slice p47_4 ((words (A * v + B * u).den).length) p47_c4]) hA hS rfl rfl (sets_store rfl rfl rfl (by kernel_rfl) hS 0 rfl rfl rfl) 0 rfl rfl rfl rfl ?_
     intro w51 hS
     refine seq_end ?_
     refine hK43 _ _ ?_
     refine wp_seq_k (fun K52 hK52 => ?_)
     refine wp_region_lit ?_
     refine seq_do hA rfl rfl rfl (d_loadS hS SmI_isS_26 rfl 0 rfl (cs := [.bool (rb (A * u - B * v).num), .slice p47_1 ((words (A * u - B * v).num.natAbs).length) p47_c1, .slice p47_2 ((words (A * u - B * v).den).length) p47_c2, .bool (rb (A * v + B * u).num), .slice p47_3 ((words (A * v + B * u).num.natAbs).length) p47_c3, .slice p47_4 ((words (A * v + B * u).den).length) p47_c4]) rfl rfl) ?_
     intro a hA
     rcases Bool.eq_false_or_eq_true (decide (¬ (fitR (A * u - B * v) ∧ fitR (A * v + B * u)))) with hb53 | hb53
     · have hb53' := of_decide_eq_true hb53
       refine seq_call hA rfl rfl rfl (enters_func  rfl rfl (fun w => by kernel_rfl)) (rlarge_any (show Nm _ (Q6.rat (A * u - B * v) (A * v + B * u)) p47_1 p47_c1 p47_2 p47_c2 p47_3 p47_c3 p47_4 p47_c4 from ⟨⟨(hS.rd 3 rfl), hn48.s1.nil, hn48.s1.cap⟩, ⟨(hS.rd 2 rfl), hn48.s2.nil, hn48.s2.cap⟩, ⟨(hS.rd 1 rfl), hn48.s3.nil, hn48.s3.cap⟩, ⟨(hS.rd 0 rfl), hn48.s4.nil, hn48.s4.cap⟩⟩) LA9 LB9 hb53) ?_
       rintro _ w55 ⟨rfl, hb54⟩
       replace hS := hS.call hb54
       refine ⟨_, rfl, ?_⟩
       intro a hA
       refine seq_end ?_
       refine hK52 _ _ ?_
       refine wp_cond_true (hA.ev rfl) ?_
       refine wp_seq_k (fun K56 hK56 => ?_)
       refine wp_region_lit ?_
       refine seq_do (v := .agg #[.bool false, .slice none 0 0, .slice none 0 0, .bool false, .slice none 0 0, .slice none 0 0]) hA rfl rfl rfl (d_build rfl (fun w => by kernel_rfl)) ?_
       intro a hA
       refine seq_store (us := [.bool false, .slice none 0 0, .slice none 0 0, .bool false, .slice none 0 0, .slice none 0 0]) hA hS rfl rfl (sets_store rfl rfl rfl (by kernel_rfl) hS 1 rfl rfl rfl) 1 rfl rfl rfl rfl ?_
       intro w57 hS
       refine seq_do hA rfl rfl rfl (d_assign rfl) ?_
       intro a hA
       refine seq_end ?_
       refine hK56 _ _ ?_
       refine wp_ret ?_
       refine hret _ _ ?_
       refine ends (v := .tuple #[.agg #[.bool false, .slice none 0 0, .slice none 0 0, .bool false, .slice none 0 0, .slice none 0 0], .int .i64 4]) hA rfl (.cons (res_cell hS SmI_isS_26 rfl 1 rfl (cs := [.bool false, .slice none 0 0, .slice none 0 0, .bool false, .slice none 0 0, .slice none 0 0]) rfl rfl) (.cons (res_tmp rfl) .nil)) rfl ?_
       rw [exptQ_pos hu hv h1 h2, if_neg (by rw [(pwB_stop (k := i + 1) (by omega) (by have h7 := of_decide_eq_true hb53; rw [hs9]; exact h7))]; decide)]
       exact ⟨none, 0, none, 0, none, 0, none, 0, rfl, ⟨(Sc.none _), (Sc.none _), (Sc.none _), (Sc.none _)⟩, hS.bel⟩
     · have hb53' := of_decide_eq_false hb53
       refine seq_call hA rfl rfl rfl (enters_func  rfl rfl (fun w => by kernel_rfl)) (rlarge_any (show Nm _ (Q6.rat (A * u - B * v) (A * v + B * u)) p47_1 p47_c1 p47_2 p47_c2 p47_3 p47_c3 p47_4 p47_c4 from ⟨⟨(hS.rd 3 rfl), hn48.s1.nil, hn48.s1.cap⟩, ⟨(hS.rd 2 rfl), hn48.s2.nil, hn48.s2.cap⟩, ⟨(hS.rd 1 rfl), hn48.s3.nil, hn48.s3.cap⟩, ⟨(hS.rd 0 rfl), hn48.s4.nil, hn48.s4.cap⟩⟩) LA9 LB9 hb53) ?_
       rintro _ w59 ⟨rfl, hb58⟩
       replace hS := hS.call hb58
       refine ⟨_, rfl, ?_⟩
       intro a hA
       refine seq_end ?_
       refine hK52 _ _ ?_
       refine wp_cond_false (hA.ev rfl) ?_
       refine wp_skip ?_
       refine hK42 _ _ ?_
       refine wp_region_lit ?_
       refine seq_do hA rfl rfl rfl (d_move rfl) ?_
       intro a hA
       refine seq_do (v := .int .i64 (((i + 1 : Nat) : Int))) hA rfl rfl rfl (d_bin rfl rfl (fun w => (bin_add (i64In (by omega) (by omega)) w).trans (by rw [show (((i : Nat) : Int) + 1 : Int) = ((i + 1 : Nat) : Int) from by omega]))) ?_
       intro a hA
       refine seq_do hA rfl rfl rfl (d_assign rfl) ?_
       intro a hA
       refine seq_end ?_
       refine hK37 _ _ _ (by omega) ⟨i + 1, (A * u - B * v), (A * v + B * u), p47_1, p47_c1, p47_2, p47_c2, p47_3, p47_c3, p47_4, p47_c4, rfl, ⟨by omega, hs9, pwB_step hB9 (by rw [hs9]; exact (Decidable.not_not.1 (of_decide_eq_false hb53)).1) (by rw [hs9]; exact (Decidable.not_not.1 (of_decide_eq_false hb53)).2), fit_lenR (Decidable.not_not.1 (of_decide_eq_false hb53)).1, fit_lenR (Decidable.not_not.1 (of_decide_eq_false hb53)).2, ⟨hn48.s1.nil, hn48.s1.cap⟩, ⟨hn48.s2.nil, hn48.s2.cap⟩, ⟨hn48.s3.nil, hn48.s3.cap⟩, ⟨hn48.s4.nil, hn48.s4.cap⟩⟩, hA.keep _ ⟨rfl, rfl, rfl, rfl, rfl, rfl, rfl, rfl, rfl, rfl, rfl, rfl, rfl, rfl, rfl, rfl, rfl, rfl, rfl, rfl, rfl, rfl, rfl, trivial⟩, ((hS.pickR [(p47_1, words (A * u - B * v).num.natAbs), (p47_2, words (A * u - B * v).den), (p47_3, words (A * v + B * u).num.natAbs), (p47_4, words (A * v + B * u).den), (p27_4, words (0 : Rat).den), (p27_3, words (0 : Rat).num.natAbs), (p27_2, words (1 : Rat).den), (p27_1, words (1 : Rat).num.natAbs), (a4, words v.den), (a3, words v.num.natAbs), (a2, words u.den), (a1, words u.num.natAbs)] ⟨⟨3, rfl⟩, ⟨⟨2, rfl⟩, ⟨⟨1, rfl⟩, ⟨⟨0, rfl⟩, ⟨⟨8, rfl⟩, ⟨⟨9, rfl⟩, ⟨⟨10, rfl⟩, ⟨⟨11, rfl⟩, ⟨⟨12, rfl⟩, ⟨⟨13, rfl⟩, ⟨⟨14, rfl⟩, ⟨⟨15, rfl⟩, trivial⟩⟩⟩⟩⟩⟩⟩⟩⟩⟩⟩⟩).subL _ (.refl _))⟩
   · have hb41' := of_decide_eq_false hb41
     refine seq_do (v := .bool false) hA rfl rfl rfl (d_bin rfl rfl (fun w => (bin_lss w).trans (by rw [hb41]))) ?_
     intro a hA
     refine seq_end ?_
     refine hK40 _ _ ?_
     refine wp_cond_false (hA.ev rfl) ?_
     refine wp_exit ?_
     refine hK34 _ _ ?_
     refine wp_seq_k (fun K60 hK60 => ?_)
     refine wp_seq_k (fun K61 hK61 => ?_)
     refine wp_region_lit ?_
     refine seq_do hA rfl rfl rfl (d_move rfl) ?_
     intro a hA
     refine seq_do (v := .bool false) hA rfl rfl rfl (d_bin rfl rfl (fun w => (bin_lss w).trans (by rw [show (decide (((N : Nat) : Int) < 0)) = false from (decide_eq_false (by omega))]))) ?_
     intro a hA
     refine seq_end ?_
     refine hK61 _ _ ?_
     refine wp_cond_false (hA.ev rfl) ?_
     refine wp_skip ?_
     refine hK60 _ _ ?_
     refine wp_seq_k (fun K62 hK62 => ?_)
     refine wp_region_lit ?_
     refine seq_do hA rfl rfl rfl (d_loadS hS SmI_isS_26 rfl 0 rfl (cs := [.bool (rb A.num), .slice po1 ((words A.num.natAbs).length) poc1, .slice po2 ((words A.den).length) poc2, .bool (rb B.num), .slice po3 ((words B.num.natAbs).length) poc3, .slice po4 ((words B.den).length) poc4]) rfl rfl) ?_
     intro a hA
     refine seq_call hA rfl rfl rfl (enters_func  rfl rfl (fun w => by kernel_rfl)) (rfit_any (show Nm _ (Q6.rat A B) po1 poc1 po2 poc2 po3 poc3 po4 poc4 from ⟨⟨(hS.rd 0 rfl), kn1.1, kn1.2⟩, ⟨(hS.rd 1 rfl), kn2.1, kn2.2⟩, ⟨(hS.rd 2 rfl), kn3.1, kn3.2⟩, ⟨(hS.rd 3 rfl), kn4.1, kn4.2⟩⟩) (LA.mono (by decide)) (LB.mono (by decide))) ?_
     rintro _ w66 ⟨p63_1, p63_c1, p63_2, p63_c2, p63_3, p63_c3, p63_4, p63_c4, rfl, hn64, hb65⟩
     replace hS := hS.call hb65
     replace hS := hS.addR hn64.s1.rd
     replace hS := hS.addR hn64.s2.rd
     replace hS := hS.addR hn64.s3.rd
     replace hS := hS.addR hn64.s4.rd
     refine ⟨_, rfl, ?_⟩
     intro a hA
     refine seq_do (v := .agg #[.bool ((ratS A B).1.b1), .slice p63_1 (((ratS A B).1.t1).length) p63_c1, .slice p63_2 (((ratS A B).1.q1).length) p63_c2, .bool ((ratS A B).1.b2), .slice p63_3 (((ratS A B).1.t2).length) p63_c3, .slice p63_4 (((ratS A B).1.q2).length) p63_c4]) hA rfl rfl rfl (d_extract (vs := [.agg #[.bool ((ratS A B).1.b1), .slice p63_1 (((ratS A B).1.t1).length) p63_c1, .slice p63_2 (((ratS A B).1.q1).length) p63_c2, .bool ((ratS A B).1.b2), .slice p63_3 (((ratS A B).1.t2).length) p63_c3, .slice p63_4 (((ratS A B).1.q2).length) p63_c4], .int .i64 ((ratS A B).2)]) rfl rfl) ?_
     intro a hA
     refine seq_do (v := .int .i64 ((ratS A B).2)) hA rfl rfl rfl (d_extract (vs := [.agg #[.bool ((ratS A B).1.b1), .slice p63_1 (((ratS A B).1.t1).length) p63_c1, .slice p63_2 (((ratS A B).1.q1).length) p63_c2, .bool ((ratS A B).1.b2), .slice p63_3 (((ratS A B).1.t2).length) p63_c3, .slice p63_4 (((ratS A B).1.q2).length) p63_c4], .int .i64 ((ratS A B).2)]) rfl rfl) ?_
     intro a hA
     refine seq_store (us := [.bool ((ratS A B).1.b1), .slice p63_1 (((ratS A B).1.t1).length) p63_c1, .slice p63_2 (((ratS A B).1.q1).length) p63_c2, .bool ((ratS A B).1.b2), .slice p63_3 (((ratS A B).1.t2).length) p63_c3, .slice p63_4 (((ratS A B).1.q2).length) p63_c4]) hA hS rfl rfl (sets_store rfl rfl rfl (by kernel_rfl) hS 1 rfl rfl rfl) 1 rfl rfl rfl rfl ?_
     intro w67 hS
     refine seq_do hA rfl rfl rfl (d_assign rfl) ?_
     intro a hA
     refine seq_end ?_
     refine hK62 _ _ ?_
     refine wp_ret ?_
     refine hret _ _ ?_
     refine ends (v := .tuple #[.agg #[.bool ((ratS A B).1.b1), .slice p63_1 (((ratS A B).1.t1).length) p63_c1, .slice p63_2 (((ratS A B).1.q1).length) p63_c2, .bool ((ratS A B).1.b2), .slice p63_3 (((ratS A B).1.t2).length) p63_c3, .slice p63_4 (((ratS A B).1.q2).length) p63_c4], .int .i64 ((ratS A B).2)]) hA rfl (.cons (res_cell hS SmI_isS_26 rfl 1 rfl (cs := [.bool ((ratS A B).1.b1), .slice p63_1 (((ratS A B).1.t1).length) p63_c1, .slice p63_2 (((ratS A B).1.q1).length) p63_c2, .bool ((ratS A B).1.b2), .slice p63_3 (((ratS A B).1.t2).length) p63_c3, .slice p63_4 (((ratS A B).1.q2).length) p63_c4]) rfl rfl) (.cons (res_tmp rfl) .nil)) rfl ?_
     obtain rfl : i = N := by omega
     rw [exptQ_pos hu hv h1 h2, if_pos hB9, hp9]
     show AnsN w (ratS _ _) _ _
     exact ⟨p63_1, p63_c1, p63_2, p63_c2, p63_3, p63_c3, p63_4, p63_c4, rfl, ⟨⟨(hS.rd 3 rfl), hn64.s1.nil, hn64.s1.cap⟩, ⟨(hS.rd 2 rfl), hn64.s2.nil, hn64.s2.cap⟩, ⟨(hS.rd 1 rfl), hn64.s3.nil, hn64.s3.cap⟩, ⟨(hS.rd 0 rfl), hn64.s4.nil, hn64.s4.cap⟩⟩, hS.bel⟩
 refine wp_region_lit ?_
 refine seq_do hA rfl rfl rfl (d_loadS hS SmI_isS_26 rfl 1 rfl (cs := [.bool (rb u.num), .slice a1 ((words u.num.natAbs).length) ac1, .slice a2 ((words u.den).length) ac2, .bool (rb v.num), .slice a3 ((words v.num.natAbs).length) ac3, .slice a4 ((words v.den).length) ac4]) rfl rfl) ?_
 intro a hA
 rcases Bool.eq_false_or_eq_true (decide (u = 0 ∧ v = 0)) with hb68 | hb68
 · have hb68' := of_decide_eq_true hb68
   refine seq_call hA rfl rfl rfl (enters_func  rfl rfl (fun w => by kernel_rfl)) (risZero_any (show Nm _ (Q6.rat u v) a1 ac1 a2 ac2 a3 ac3 a4 ac4 from ⟨⟨(hS.rd 3 rfl), ha.s1.nil, ha.s1.cap⟩, ⟨(hS.rd 2 rfl), ha.s2.nil, ha.s2.cap⟩, ⟨(hS.rd 1 rfl), ha.s3.nil, ha.s3.cap⟩, ⟨(hS.rd 0 rfl), ha.s4.nil, ha.s4.cap⟩⟩) hu hv hb68) ?_
   rintro _ w70 ⟨rfl, hb69⟩
   replace hS := hS.call hb69
   refine ⟨_, rfl, ?_⟩
   intro a hA
   refine seq_do hA rfl rfl rfl (d_move rfl) ?_
   intro a hA
   refine seq_do hA rfl rfl rfl (d_move rfl) ?_
   intro a hA
   refine seq_do (v := .bool false) hA rfl rfl rfl (d_bin rfl rfl (fun w => (bin_lss w).trans (by rw [show (decide (((N : Nat) : Int) < 0)) = false from (decide_eq_false (by omega))]))) ?_
   intro a hA
   refine seq_do (v := .bool false) hA rfl rfl rfl (d_pick rfl rfl rfl rfl) ?_
   intro a hA
   refine seq_end ?_
   exact hJ21 _ _ ⟨hA.keep _ ⟨rfl, rfl, rfl, rfl, rfl, rfl, rfl, rfl, rfl, rfl, rfl, rfl, rfl, rfl, rfl, rfl, rfl, trivial⟩, hS⟩
 · have hb68' := of_decide_eq_false hb68
   refine seq_call hA rfl rfl rfl (enters_func  rfl rfl (fun w => by kernel_rfl)) (risZero_any (show Nm _ (Q6.rat u v) a1 ac1 a2 ac2 a3 ac3 a4 ac4 from ⟨⟨(hS.rd 3 rfl), ha.s1.nil, ha.s1.cap⟩, ⟨(hS.rd 2 rfl), ha.s2.nil, ha.s2.cap⟩, ⟨(hS.rd 1 rfl), ha.s3.nil, ha.s3.cap⟩, ⟨(hS.rd 0 rfl), ha.s4.nil, ha.s4.cap⟩⟩) hu hv hb68) ?_
   rintro _ w72 ⟨rfl, hb71⟩
   replace hS := hS.call hb71
   refine ⟨_, rfl, ?_⟩
   intro a hA
   refine seq_do hA rfl rfl rfl (d_move rfl) ?_
   intro a hA
   refine seq_skip hA rfl rfl rfl ?_
   intro a hA
   refine seq_skip hA rfl rfl rfl ?_
   intro a hA
   refine seq_do (v := .bool false) hA rfl rfl rfl (d_pick rfl rfl rfl rfl) ?_
   intro a hA
   refine seq_end ?_
   exact hJ21 _ _ ⟨hA.keep _ ⟨rfl, rfl, rfl, rfl, rfl, rfl, rfl, rfl, rfl, rfl, rfl, rfl, rfl, rfl, rfl, rfl, rfl, trivial⟩, hS⟩
set_option maxHeartbeats 2000000 in
theorem rexCM_any {w : World} {u v : Rat} {a1 a2 a3 a4 : Option Addr} {ac1 ac2 ac3 ac4 : Nat} (ha : Nm w (Q6.rat u v) a1 ac1 a2 ac2 a3 ac3 a4 ac4) (hu : fitR u) (hv : fitR v) {N : Nat} (h1 : 1 ≤ N) (h2 : N ≤ 1024) (hz : ¬ (u = 0 ∧ v = 0)) (k2 : decide ((Q6.rat u v).t2.length = 0) = false) (LU : LenR 512 u) (LV : LenR 512 v) {i1 i2 : Rat} (j0 : ivR (pwR u v N) = (i1, i2)) (LI : pwB u v N = true → LenR 9000 i1 ∧ LenR 9000 i2) : Calls Tryz.prog 31 #[numV (Q6.rat u v) a1 ac1 a2 ac2 a3 ac3 a4 ac4, .int .i64 (-((N : Nat) : Int))] w (AnsN w (exptQ (Q6.rat u v) (-((N : Nat) : Int)))) := by
 have hS : St w w [] [(a4, words v.den), (a3, words v.num.natAbs), (a2, words u.den), (a1, words u.num.natAbs)] [] := ((((St.start w).addR ha.s1.rd).addR ha.s2.rd).addR ha.s3.rd).addR ha.s4.rd
 refine walk_of (l := [(0, .agg #[.bool (rb u.num), .slice a1 ((words u.num.natAbs).length) ac1, .slice a2 ((words u.den).length) ac2, .bool (rb v.num), .slice a3 ((words v.num.natAbs).length) ac3, .slice a4 ((words v.den).length) ac4]), (1, .int .i64 (-((N : Nat) : Int)))]) Tryz.func31 rfl Tryz.ntmps31 rfl rfl ?_
 intro Q hret hnorm hP a hA
 refine wp_seq_k (fun K1 hK1 => ?_)
 refine wp_region_lit ?_
 refine seq_new hA hS rfl rfl rfl (fun g => .pointer (some ⟨g, 0, none⟩)) (d_box rfl rfl) rfl ?_
 intro g2 w3 hS a hA
 refine seq_new (vs := [.bool false, .slice none 0 0, .slice none 0 0, .bool false, .slice none 0 0, .slice none 0 0]) (t := 26) hA hS rfl rfl rfl (fun g => .pointer (some ⟨g, 0, none⟩)) (d_alloc (z := .agg #[.bool false, .slice none 0 0, .slice none 0 0, .bool false, .slice none 0 0, .slice none 0 0]) (by kernel_rfl) rfl) rfl ?_
 intro g4 w5 hS a hA
 refine seq_do hA rfl rfl rfl (d_assign rfl) ?_
 intro a hA
 refine seq_end ?_
 refine hK1 _ _ ?_
 refine wp_seq_k (fun K6 hK6 => ?_)
 refine wp_seq_k (fun K7 hK7 => ?_)
 refine wp_region_lit ?_
 refine seq_do hA rfl rfl rfl (d_loadS hS SmI_isS_26 rfl 1 rfl (cs := [.bool (rb u.num), .slice a1 ((words u.num.natAbs).length) ac1, .slice a2 ((words u.den).length) ac2, .bool (rb v.num), .slice a3 ((words v.num.natAbs).length) ac3, .slice a4 ((words v.den).length) ac4]) rfl rfl) ?_
 intro a hA
 refine seq_call hA rfl rfl rfl (enters_func  rfl rfl (fun w => by kernel_rfl)) (rsoundQ_any (show Nm _ (Q6.rat u v) a1 ac1 a2 ac2 a3 ac3 a4 ac4 from ⟨⟨(hS.rd 3 rfl), ha.s1.nil, ha.s1.cap⟩, ⟨(hS.rd 2 rfl), ha.s2.nil, ha.s2.cap⟩, ⟨(hS.rd 1 rfl), ha.s3.nil, ha.s3.cap⟩, ⟨(hS.rd 0 rfl), ha.s4.nil, ha.s4.cap⟩⟩) (lenQ_rat hu hv) (soundQ_rat hu hv)) ?_
 rintro _ w9 ⟨rfl, hb8⟩
 replace hS := hS.call hb8
 refine ⟨_, rfl, ?_⟩
 intro a hA
 refine seq_do (v := .bool false) hA rfl rfl rfl (d_un rfl un_not) ?_
 intro a hA
 refine seq_end ?_
 refine hK7 _ _ ?_
 refine wp_cond_false (hA.ev rfl) ?_
 refine wp_skip ?_
 refine hK6 _ _ ?_
 refine wp_seq_k (fun K10 hK10 => ?_)
 refine wp_seq_k (fun K11 hK11 => ?_)
 refine wp_region_lit ?_
 refine seq_do hA rfl rfl rfl (d_move rfl) ?_
 intro a hA
 refine seq_do (v := .bool false) hA rfl rfl rfl (d_bin rfl rfl (fun w => (bin_lss w).trans (by rw [show (decide (-((N : Nat) : Int) < -1024)) = false from (decide_eq_false (by omega))]))) ?_
 intro a hA
 refine seq_do hA rfl rfl rfl (d_move rfl) ?_
 intro a hA
 refine seq_do hA rfl rfl rfl (d_move rfl) ?_
 intro a hA
 refine seq_do (v := .bool false) hA rfl rfl rfl (d_bin rfl rfl (fun w => (bin_gtr w).trans (by rw [show (decide (1024 < -((N : Nat) : Int))) = false from (decide_eq_false (by omega))]))) ?_
 intro a hA
 refine seq_do (v := .bool false) hA rfl rfl rfl (d_pick rfl rfl rfl rfl) ?_
 intro a hA
 refine seq_end ?_
 refine hK11 _ _ ?_
 refine wp_cond_false (hA.ev rfl) ?_
 refine wp_skip ?_
 refine hK10 _ _ ?_
 refine wp_seq_k (fun K12 hK12 => ?_)
 refine wp_seq_k (fun K13 hK13 => ?_)
 refine wp_region_lit ?_
 refine seq_do hA rfl rfl rfl (d_move rfl) ?_
 intro a hA
 refine seq_do (v := .bool false) hA rfl rfl rfl (d_bin rfl rfl (fun w => (bin_eql w).trans (by rw [show ((-((N : Nat) : Int) == 0)) = false from (beq_eq_false_iff_ne.2 (by omega))]))) ?_
 intro a hA
 refine seq_end ?_
 refine hK13 _ _ ?_
 refine wp_cond_false (hA.ev rfl) ?_
 refine wp_skip ?_
 refine hK12 _ _ ?_
 refine wp_seq_k (fun K14 hK14 => ?_)
 refine wp_seq_k (fun K15 hK15 => ?_)
 refine wp_region_lit ?_
 refine seq_do hA rfl rfl rfl (d_loadS hS SmI_isS_26 rfl 1 rfl (cs := [.bool (rb u.num), .slice a1 ((words u.num.natAbs).length) ac1, .slice a2 ((words u.den).length) ac2, .bool (rb v.num), .slice a3 ((words v.num.natAbs).length) ac3, .slice a4 ((words v.den).length) ac4]) rfl rfl) ?_
 intro a hA
 refine seq_call hA rfl rfl rfl (enters_func  rfl rfl (fun w => by kernel_rfl)) (risZero_any (show Nm _ (Q6.rat u v) a1 ac1 a2 ac2 a3 ac3 a4 ac4 from ⟨⟨(hS.rd 3 rfl), ha.s1.nil, ha.s1.cap⟩, ⟨(hS.rd 2 rfl), ha.s2.nil, ha.s2.cap⟩, ⟨(hS.rd 1 rfl), ha.s3.nil, ha.s3.cap⟩, ⟨(hS.rd 0 rfl), ha.s4.nil, ha.s4.cap⟩⟩) hu hv (decide_eq_false hz)) ?_
 rintro _ w17 ⟨rfl, hb16⟩
 replace hS := hS.call hb16
 refine ⟨_, rfl, ?_⟩
 intro a hA
 refine seq_do hA rfl rfl rfl (d_move rfl) ?_
 intro a hA
 refine seq_skip hA rfl rfl rfl ?_
 intro a hA
 refine seq_skip hA rfl rfl rfl ?_
 intro a hA
 refine seq_do (v := .bool false) hA rfl rfl rfl (d_pick rfl rfl rfl rfl) ?_
 intro a hA
 refine seq_end ?_
 refine hK15 _ _ ?_
 refine wp_cond_false (hA.ev rfl) ?_
 refine wp_skip ?_
 refine hK14 _ _ ?_
 refine wp_seq_k (fun K18 hK18 => ?_)
 refine wp_region_lit ?_
 refine seq_do hA rfl rfl rfl (d_move rfl) ?_
 intro a hA
 refine seq_do hA rfl rfl rfl (d_assign rfl) ?_
 intro a hA
 refine seq_end ?_
 refine hK18 _ _ ?_
 refine wp_seq_k (fun K19 hK19 => ?_)
 refine wp_seq_k (fun K20 hK20 => ?_)
 refine wp_region_lit ?_
 refine seq_do hA rfl rfl rfl (d_move rfl) ?_
 intro a hA
 refine seq_do (v := .bool true) hA rfl rfl rfl (d_bin rfl rfl (fun w => (bin_lss w).trans (by rw [show (decide (-((N : Nat) : Int) < 0)) = true from (decide_eq_true (by omega))]))) ?_
 intro a hA
 refine seq_end ?_
 refine hK20 _ _ ?_
 refine wp_cond_true (hA.ev rfl) ?_
 refine wp_region_lit ?_
 refine seq_do hA rfl rfl rfl (d_move rfl) ?_
 intro a hA
 refine seq_do (v := .int .i64 (((N : Nat) : Int))) hA rfl rfl rfl (d_un rfl (ar_neg (show IntKind.i64.wrap (-(-((N : Nat) : Int))) = ((N : Nat) : Int) from (in_i64 (by omega) (by omega)).trans (by omega)))) ?_
 intro a hA
 refine seq_do hA rfl rfl rfl (d_assign rfl) ?_
 intro a hA
 refine seq_end ?_
 refine hK19 _ _ ?_
 refine wp_seq_k (fun K21 hK21 => ?_)
 refine wp_region_lit ?_
 refine seq_call hA rfl rfl rfl (enters_func  rfl rfl (fun w => by kernel_rfl)) (rint1c_any) ?_
 rintro _ w25 ⟨p22_1, p22_c1, p22_2, p22_c2, p22_3, p22_c3, p22_4, p22_c4, rfl, hn23, hb24⟩
 replace hS := hS.call hb24
 replace hS := hS.addR hn23.s1.rd
 replace hS := hS.addR hn23.s2.rd
 replace hS := hS.addR hn23.s3.rd
 replace hS := hS.addR hn23.s4.rd
 refine ⟨_, rfl, ?_⟩
 intro a hA
 refine seq_new (vs := [.bool false, .slice none 0 0, .slice none 0 0, .bool false, .slice none 0 0, .slice none 0 0]) (t := 26) hA hS rfl rfl rfl (fun g => .pointer (some ⟨g, 0, none⟩)) (d_alloc (z := .agg #[.bool false, .slice none 0 0, .slice none 0 0, .bool false, .slice none 0 0, .slice none 0 0]) (by kernel_rfl) rfl) rfl ?_
 intro g26 w27 hS a hA
 refine seq_store (us := [.bool (rb (1 : Rat).num), .slice p22_1 ((words (1 : Rat).num.natAbs).length) p22_c1, .slice p22_2 ((words (1 : Rat).den).length) p22_c2, .bool (rb (0 : Rat).num), .slice p22_3 ((words (0 : Rat).num.natAbs).length) p22_c3, .slice p22_4 ((words (0 : Rat).den).length) p22_c4]) hA hS rfl rfl (sets_store rfl rfl rfl (by kernel_rfl) hS 0 rfl rfl rfl) 0 rfl rfl rfl rfl ?_
 intro w28 hS
 refine seq_end ?_
 refine hK21 _ _ ?_
 refine wp_seq_k (fun K29 hK29 => ?_)
 refine wp_seq_k (fun K30 hK30 => ?_)
 refine wp_region_lit ?_
 refine seq_do hA rfl rfl rfl (d_assign rfl) ?_
 intro a hA
 refine seq_end ?_
 refine hK30 _ _ ?_
 refine wp_block ?_
 refine wp_loop_n (fun m a w1 => ∃ (i : Nat) (A : Rat) (B : Rat) (po1 : Option Addr) (poc1 : Nat) (po2 : Option Addr) (poc2 : Nat) (po3 : Option Addr) (poc3 : Nat) (po4 : Option Addr) (poc4 : Nat), m = N - i ∧ (i ≤ N ∧ pwR u v i = (A, B) ∧ pwB u v i = true ∧ LenR 512 A ∧ LenR 512 B ∧ Ncap po1 poc1 (words A.num.natAbs) ∧ Ncap po2 poc2 (words A.den) ∧ Ncap po3 poc3 (words B.num.natAbs) ∧ Ncap po4 poc4 (words B.den)) ∧ Sl a 87 [(0, .agg #[.bool (rb u.num), .slice a1 ((words u.num.natAbs).length) ac1, .slice a2 ((words u.den).length) ac2, .bool (rb v.num), .slice a3 ((words v.num.natAbs).length) ac3, .slice a4 ((words v.den).length) ac4]), (1, .int .i64 (-((N : Nat) : Int))), (2, .pointer (some ⟨g2, 0, none⟩)), (4, .pointer (some ⟨g4, 0, none⟩)), (6, .int .i64 (((N : Nat) : Int))), (7, .pointer (some ⟨g26, 0, none⟩)), (8, .int .i64 (((i : Nat) : Int))), (9, .agg #[.bool (rb u.num), .slice a1 ((words u.num.natAbs).length) ac1, .slice a2 ((words u.den).length) ac2, .bool (rb v.num), .slice a3 ((words v.num.natAbs).length) ac3, .slice a4 ((words v.den).length) ac4]), (10, .bool true), (11, .bool false), (13, .int .i64 (-((N : Nat) : Int))), (14, .bool false), (15, .bool false), (16, .int .i64 (-((N : Nat) : Int))), (17, .bool false), (18, .bool false), (20, .int .i64 (-((N : Nat) : Int))), (21, .bool false), (23, .agg #[.bool (rb u.num), .slice a1 ((words u.num.natAbs).length) ac1, .slice a2 ((words u.den).length) ac2, .bool (rb v.num), .slice a3 ((words v.num.natAbs).length) ac3, .slice a4 ((words v.den).length) ac4]), (24, .bool false), (25, .bool false), (28, .bool false), (30, .int .i64 (-((N : Nat) : Int))), (31, .int .i64 (-((N : Nat) : Int))), (32, .bool true), (33, .int .i64 (-((N : Nat) : Int))), (34, .int .i64 (((N : Nat) : Int))), (35, .agg #[.bool (rb (1 : Rat).num), .slice p22_1 ((words (1 : Rat).num.natAbs).length) p22_c1, .slice p22_2 ((words (1 : Rat).den).length) p22_c2, .bool (rb (0 : Rat).num), .slice p22_3 ((words (0 : Rat).num.natAbs).length) p22_c3, .slice p22_4 ((words (0 : Rat).den).length) p22_c4])] ∧ St w w1 [(g26, [.bool (rb A.num), .slice po1 ((words A.num.natAbs).length) poc1, .slice po2 ((words A.den).length) poc2, .bool (rb B.num), .slice po3 ((words B.num.natAbs).length) poc3, .slice po4 ((words B.den).length) poc4]), (g4, [.bool false, .slice none 0 0, .slice none 0 0, .bool false, .slice none 0 0, .slice none 0 0]), (g2, [.bool (rb u.num), .slice a1 ((words u.num.natAbs).length) ac1, .slice a2 ((words u.den).length) ac2, .bool (rb v.num), .slice a3 ((words v.num.natAbs).length) ac3, .slice a4 ((words v.den).length) ac4])] [(po1, words A.num.natAbs), (po2, words A.den), (po3, words B.num.natAbs), (po4, words B.den), (p22_4, words (0 : Rat).den), (p22_3, words (0 : Rat).num.natAbs), (p22_2, words (1 : Rat).den), (p22_1, words (1 : Rat).num.natAbs), (a4, words v.den), (a3, words v.num.natAbs), (a2, words u.den), (a1, words u.num.natAbs)] []) _ ⟨0, 1, 0, p22_1, p22_c1, p22_2, p22_c2, p22_3, p22_c3, p22_4, p22_c4, rfl, ⟨by omega, rfl, rfl, len_one, len_zero, ⟨hn23.s1.nil, hn23.s1.cap⟩, ⟨hn23.s2.nil, hn23.s2.cap⟩, ⟨hn23.s3.nil, hn23.s3.cap⟩, ⟨hn23.s4.nil, hn23.s4.cap⟩⟩, hA.keep _ ⟨rfl, rfl, rfl, rfl, rfl, rfl, rfl, rfl, rfl, rfl, rfl, rfl, rfl, rfl, rfl, rfl, rfl, rfl, rfl, rfl, rfl, rfl, rfl, rfl, rfl, rfl, rfl, rfl, trivial⟩, ((hS.pickR [(p22_1, words (1 : Rat).num.natAbs), (p22_2, words (1 : Rat).den), (p22_3, words (0 : Rat).num.natAbs), (p22_4, words (0 : Rat).den), (p22_4, words (0 : Rat).den), (p22_3, words (0 : Rat).num.natAbs), (p22_2, words (1 : Rat).den), (p22_1, words (1 : Rat).num.natAbs), (a4, words v.den), (a3, words v.num.natAbs), (a2, words u.den), (a1, words u.num.natAbs)] ⟨⟨3, rfl⟩, ⟨⟨2, rfl⟩, ⟨⟨1, rfl⟩, ⟨⟨0, rfl⟩, ⟨⟨0, rfl⟩, ⟨⟨1, rfl⟩, ⟨⟨2, rfl⟩, ⟨⟨3, rfl⟩, ⟨⟨4, rfl⟩, ⟨⟨5, rfl⟩, ⟨⟨6, rfl⟩, ⟨⟨7, rfl⟩, trivial⟩⟩⟩⟩⟩⟩⟩⟩⟩⟩⟩⟩).subL _ (.refl _))⟩ ?_
 clear hS hA
 rintro m a w31 ⟨i, A, B, po1, poc1, po2, poc2, po3, poc3, po4, poc4, rfl, hinv33, hA, hS⟩ K32 hK32
 obtain ⟨hi9, hp9, hB9, LA, LB, kn1, kn2, kn3, kn4⟩ := hinv33
 have LA9 : LenR 9000 (A * u - B * v) := (lenR_subA (lenR_mul LA LU) (lenR_mul LB LV)).mono (by decide)
 have LB9 : LenR 9000 (A * v + B * u) := (lenR_add (lenR_mul LA LV) (lenR_mul LB LU)).mono (by decide)
 have hs9 : pwR u v (i + 1) = (A * u - B * v, A * v + B * u) := by
   show ((pwR u v i).1 * u - (pwR u v i).2 * v, (pwR u v i).1 * v + (pwR u v i).2 * u) = _
   rw [hp9]
 refine wp_seq_k (fun K34 hK34 => ?_)
 refine wp_seq_k (fun K35 hK35 => ?_)
 refine wp_region_lit ?_
 refine seq_do hA rfl rfl rfl (d_move rfl) ?_
 intro a hA
 refine seq_do hA rfl rfl rfl (d_move rfl) ?_
 intro a hA
 rcases Bool.eq_false_or_eq_true (decide (((i : Nat) : Int) < ((N : Nat) : Int))) with hb36 | hb36
 · have hb36' := of_decide_eq_true hb36
   refine seq_do (v := .bool true) hA rfl rfl rfl (d_bin rfl rfl (fun w => (bin_lss w).trans (by rw [hb36]))) ?_
   intro a hA
   refine seq_end ?_
   refine hK35 _ _ ?_
   refine wp_cond_true (hA.ev rfl) ?_
   refine wp_skip ?_
   refine hK34 _ _ ?_
   refine wp_seq_k (fun K37 hK37 => ?_)
   refine wp_block ?_
   refine wp_seq_k (fun K38 hK38 => ?_)
   refine wp_seq_k (fun K39 hK39 => ?_)
   refine wp_region_lit ?_
   refine seq_do hA rfl rfl rfl (d_loadS hS SmI_isS_26 rfl 2 rfl (cs := [.bool (rb u.num), .slice a1 ((words u.num.natAbs).length) ac1, .slice a2 ((words u.den).length) ac2, .bool (rb v.num), .slice a3 ((words v.num.natAbs).length) ac3, .slice a4 ((words v.den).length) ac4]) rfl rfl) ?_
   intro a hA
   refine seq_call hA rfl rfl rfl (enters_func  rfl rfl (fun w => by kernel_rfl)) (rrealQ_any (show Nm _ (Q6.rat u v) a1 ac1 a2 ac2 a3 ac3 a4 ac4 from ⟨⟨(hS.rd 11 rfl), ha.s1.nil, ha.s1.cap⟩, ⟨(hS.rd 10 rfl), ha.s2.nil, ha.s2.cap⟩, ⟨(hS.rd 9 rfl), ha.s3.nil, ha.s3.cap⟩, ⟨(hS.rd 8 rfl), ha.s4.nil, ha.s4.cap⟩⟩) (lenQ_rat hu hv) k2) ?_
   rintro _ w41 ⟨rfl, hb40⟩
   replace hS := hS.call hb40
   refine ⟨_, rfl, ?_⟩
   intro a hA
   refine seq_end ?_
   refine hK39 _ _ ?_
   refine wp_cond_false (hA.ev rfl) ?_
   refine wp_region_lit ?_
   refine seq_do hA rfl rfl rfl (d_loadS hS SmI_isS_26 rfl 0 rfl (cs := [.bool (rb A.num), .slice po1 ((words A.num.natAbs).length) poc1, .slice po2 ((words A.den).length) poc2, .bool (rb B.num), .slice po3 ((words B.num.natAbs).length) poc3, .slice po4 ((words B.den).length) poc4]) rfl rfl) ?_
   intro a hA
   refine seq_do hA rfl rfl rfl (d_loadS hS SmI_isS_26 rfl 2 rfl (cs := [.bool (rb u.num), .slice a1 ((words u.num.natAbs).length) ac1, .slice a2 ((words u.den).length) ac2, .bool (rb v.num), .slice a3 ((words v.num.natAbs).length) ac3, .slice a4 ((words v.den).length) ac4]) rfl rfl) ?_
   intro a hA
   refine seq_call hA rfl rfl rfl (enters_func  rfl rfl (fun w => by kernel_rfl)) (rtimesQ_any (show Nm _ (Q6.rat A B) po1 poc1 po2 poc2 po3 poc3 po4 poc4 from ⟨⟨(hS.rd 0 rfl), kn1.1, kn1.2⟩, ⟨(hS.rd 1 rfl), kn2.1, kn2.2⟩, ⟨(hS.rd 2 rfl), kn3.1, kn3.2⟩, ⟨(hS.rd 3 rfl), kn4.1, kn4.2⟩⟩) (show Nm _ (Q6.rat u v) a1 ac1 a2 ac2 a3 ac3 a4 ac4 from ⟨⟨(hS.rd 11 rfl), ha.s1.nil, ha.s1.cap⟩, ⟨(hS.rd 10 rfl), ha.s2.nil, ha.s2.cap⟩, ⟨(hS.rd 9 rfl), ha.s3.nil, ha.s3.cap⟩, ⟨(hS.rd 8 rfl), ha.s4.nil, ha.s4.cap⟩⟩) LA LB (LU.mono (by decide)) (LV.mono (by decide))) ?_
   rintro _ w45 ⟨p42_1, p42_c1, p42_2, p42_c2, p42_3, p42_c3, p42_4, p42_c4, rfl, hn43, hb44⟩
   replace hS := hS.call hb44
   replace hS := hS.addR hn43.s1.rd
   replace hS := hS.addR hn43.s2.rd
   replace hS := hS.addR hn43.s3.rd
   replace hS := hS.addR hn43.s4.rd
   refine ⟨_, rfl, ?_⟩
   intro a hA
   refine seq_store (us := [.bool (rb (A * u - B * v).num), .slice p42_1 ((words (A * u - B * v).num.natAbs).length) p42_c1, .slice p42_2 ((words (A * u - B * v).den).length) p42_c2, .bool (rb (A * v + B * u).num), .slice p42_3 ((words (A * v + B * u).num.natAbs).length) p42_c3, .slice p42_4 ((words (A * v + B * u).den).length) p42_c4]) hA hS rfl rfl (sets_store rfl rfl rfl (by kernel_rfl) hS 0 rfl rfl rfl) 0 rfl rfl rfl rfl ?_
   intro w46 hS
   refine seq_end ?_
   refine hK38 _ _ ?_
   refine wp_seq_k (fun K47 hK47 => ?_)
   refine wp_region_lit ?_
   refine seq_do hA rfl rfl rfl (d_loadS hS SmI_isS_26 rfl 0 rfl (cs := [.bool (rb (A * u - B * v).num), .slice p42_1 ((words (A * u - B * v).num.natAbs).length) p42_c1, .slice p42_2 ((words (A * u - B * v).den).length) p42_c2, .bool (rb (A * v + B * u).num), .slice p42_3 ((words (A * v + B * u).num.natAbs).length) p42_c3, .slice p42_4 ((words (A * v + B * u).den).length) p42_c4]) rfl rfl) ?_
   intro a hA
   rcases Bool.eq_false_or_eq_true (decide (¬ (fitR (A * u - B * v) ∧ fitR (A * v + B * u)))) with hb48 | hb48
   · have hb48' := of_decide_eq_true hb48
     refine seq_call hA rfl rfl rfl (enters_func  rfl rfl (fun w => by kernel_rfl)) (rlarge_any (show Nm _ (Q6.rat (A * u - B * v) (A * v + B * u)) p42_1 p42_c1 p42_2 p42_c2 p42_3 p42_c3 p42_4 p42_c4 from ⟨⟨(hS.rd 3 rfl), hn43.s1.nil, hn43.s1.cap⟩, ⟨(hS.rd 2 rfl), hn43.s2.nil, hn43.s2.cap⟩, ⟨(hS.rd 1 rfl), hn43.s3.nil, hn43.s3.cap⟩, ⟨(hS.rd 0 rfl), hn43.s4.nil, hn43.s4.cap⟩⟩) LA9 LB9 hb48) ?_
     rintro _ w50 ⟨rfl, hb49⟩
     replace hS := hS.call hb49
     refine ⟨_, rfl, ?_⟩
     intro a hA
     refine seq_end ?_
     refine hK47 _ _ ?_
     refine wp_cond_true (hA.ev rfl) ?_
     refine wp_seq_k (fun K51 hK51 => ?_)
     refine wp_region_lit ?_
     refine seq_do (v := .agg #[.bool false, .slice none 0 0, .slice none 0 0, .bool false, .slice none 0 0, .slice none 0 0]) hA rfl rfl rfl (d_build rfl (fun w => by kernel_rfl)) ?_
     intro a hA
     refine seq_store (us := [.bool false, .slice none 0 0, .slice none 0 0, .bool false, .slice none 0 0, .slice none 0 0]) hA hS rfl rfl (sets_store rfl rfl rfl (by kernel_rfl) hS 1 rfl rfl rfl) 1 rfl rfl rfl rfl ?_
     intro w52 hS
     refine seq_do hA rfl rfl rfl (d_assign rfl) ?_
     intro a hA
     refine seq_end ?_
     refine hK51 _ _ ?_
     refine wp_ret ?_
     refine hret _ _ ?_
     refine ends (v := .tuple #[.agg #[.bool false, .slice none 0 0, .slice none 0 0, .bool false, .slice none 0 0, .slice none 0 0], .int .i64 4]) hA rfl (.cons (res_cell hS SmI_isS_26 rfl 1 rfl (cs := [.bool false, .slice none 0 0, .slice none 0 0, .bool false, .slice none 0 0, .slice none 0 0]) rfl rfl) (.cons (res_tmp rfl) .nil)) rfl ?_
     rw [exptQ_neg hu hv (by omega) h2 hz, if_neg (by rw [(pwB_stop (k := i + 1) (by omega) (by have h7 := of_decide_eq_true hb48; rw [hs9]; exact h7))]; decide)]
     exact ⟨none, 0, none, 0, none, 0, none, 0, rfl, ⟨(Sc.none _), (Sc.none _), (Sc.none _), (Sc.none _)⟩, hS.bel⟩
   · have hb48' := of_decide_eq_false hb48
     refine seq_call hA rfl rfl rfl (enters_func  rfl rfl (fun w => by kernel_rfl)) (rlarge_any (show Nm _ (Q6.rat (A * u - B * v) (A * v + B * u)) p42_1 p42_c1 p42_2 p42_c2 p42_3 p42_c3 p42_4 p42_c4 from ⟨⟨(hS.rd 3 rfl), hn43.s1.nil, hn43.s1.cap⟩, ⟨(hS.rd 2 rfl), hn43.s2.nil, hn43.s2.cap⟩, ⟨(hS.rd 1 rfl), hn43.s3.nil, hn43.s3.cap⟩, ⟨(hS.rd 0 rfl), hn43.s4.nil, hn43.s4.cap⟩⟩) LA9 LB9 hb48) ?_
     rintro _ w54 ⟨rfl, hb53⟩
     replace hS := hS.call hb53
     refine ⟨_, rfl, ?_⟩
     intro a hA
     refine seq_end ?_
     refine hK47 _ _ ?_
     refine wp_cond_false (hA.ev rfl) ?_
     refine wp_skip ?_
     refine hK37 _ _ ?_
     refine wp_region_lit ?_
     refine seq_do hA rfl rfl rfl (d_move rfl) ?_
     intro a hA
     refine seq_do (v := .int .i64 (((i + 1 : Nat) : Int))) hA rfl rfl rfl (d_bin rfl rfl (fun w => (bin_add (i64In (by omega) (by omega)) w).trans (by rw [show (((i : Nat) : Int) + 1 : Int) = ((i + 1 : Nat) : Int) from by omega]))) ?_
     intro a hA
     refine seq_do hA rfl rfl rfl (d_assign rfl) ?_
     intro a hA
     refine seq_end ?_
     refine hK32 _ _ _ (by omega) ⟨i + 1, (A * u - B * v), (A * v + B * u), p42_1, p42_c1, p42_2, p42_c2, p42_3, p42_c3, p42_4, p42_c4, rfl, ⟨by omega, hs9, pwB_step hB9 (by rw [hs9]; exact (Decidable.not_not.1 (of_decide_eq_false hb48)).1) (by rw [hs9]; exact (Decidable.not_not.1 (of_decide_eq_false hb48)).2), fit_lenR (Decidable.not_not.1 (of_decide_eq_false hb48)).1, fit_lenR (Decidable.not_not.1 (of_decide_eq_false hb48)).2, ⟨hn43.s1.nil, hn43.s1.cap⟩, ⟨hn43.s2.nil, hn43.s2.cap⟩, ⟨hn43.s3.nil, hn43.s3.cap⟩, ⟨hn43.s4.nil, hn43.s4.cap⟩⟩, hA.keep _ ⟨rfl, rfl, rfl, rfl, rfl, rfl, rfl, rfl, rfl, rfl, rfl, rfl, rfl, rfl, rfl, rfl, rfl, rfl, rfl, rfl, rfl, rfl, rfl, rfl, rfl, rfl, rfl, rfl, trivial⟩, ((hS.pickR [(p42_1, words (A * u - B * v).num.natAbs), (p42_2, words (A * u - B * v).den), (p42_3, words (A * v + B * u).num.natAbs), (p42_4, words (A * v + B * u).den), (p22_4, words (0 : Rat).den), (p22_3, words (0 : Rat).num.natAbs), (p22_2, words (1 : Rat).den), (p22_1, words (1 : Rat).num.natAbs), (a4, words v.den), (a3, words v.num.natAbs), (a2, words u.den), (a1, words u.num.natAbs)] ⟨⟨3, rfl⟩, ⟨⟨2, rfl⟩, ⟨⟨1, rfl⟩, ⟨⟨0, rfl⟩, ⟨⟨8, rfl⟩, ⟨⟨9, rfl⟩, ⟨⟨10, rfl⟩, ⟨⟨11, rfl⟩, ⟨⟨12, rfl⟩, ⟨⟨13, rfl⟩, ⟨⟨14, rfl⟩, ⟨⟨15, rfl⟩, trivial⟩⟩⟩⟩⟩⟩⟩⟩⟩⟩⟩⟩).subL _ (.refl _))⟩
 · have hb36' := of_decide_eq_false hb36
   refine seq_do (v := .bool false) hA rfl rfl rfl (d_bin rfl rfl (fun w => (bin_lss w).trans (by rw [hb36]))) ?_
   intro a hA
   refine seq_end ?_
   refine hK35 _ _ ?_
   refine wp_cond_false (hA.ev rfl) ?_
   refine wp_exit ?_
   refine hK29 _ _ ?_
   refine wp_seq_k (fun K55 hK55 => ?_)
   refine wp_seq_k (fun K56 hK56 => ?_)
   refine wp_region_lit ?_
   refine seq_do hA rfl rfl rfl (d_move rfl) ?_
   intro a hA
   refine seq_do (v := .bool true) hA rfl rfl rfl (d_bin rfl rfl (fun w => (bin_lss w).trans (by rw [show (decide (-((N : Nat) : Int) < 0)) = true from (decide_eq_true (by omega))]))) ?_
   intro a hA
   refine seq_end ?_
   refine hK56 _ _ ?_
   refine wp_cond_true (hA.ev rfl) ?_
   refine wp_region_lit ?_
   refine seq_do hA rfl rfl rfl (d_loadS hS SmI_isS_26 rfl 0 rfl (cs := [.bool (rb A.num), .slice po1 ((words A.num.natAbs).length) poc1, .slice po2 ((words A.den).length) poc2, .bool (rb B.num), .slice po3 ((words B.num.natAbs).length) poc3, .slice po4 ((words B.den).length) poc4]) rfl rfl) ?_
   intro a hA
   refine seq_call hA rfl rfl rfl (enters_func  rfl rfl (fun w => by kernel_rfl)) (rinvc_any (show Nm _ (Q6.rat A B) po1 poc1 po2 poc2 po3 poc3 po4 poc4 from ⟨⟨(hS.rd 0 rfl), kn1.1, kn1.2⟩, ⟨(hS.rd 1 rfl), kn2.1, kn2.2⟩, ⟨(hS.rd 2 rfl), kn3.1, kn3.2⟩, ⟨(hS.rd 3 rfl), kn4.1, kn4.2⟩⟩) LA LB (fun c => (pwR_ne hz i) (by rw [hp9]; exact c)) (iv_fstc (by omega) hp9 j0) (iv_sndc (by omega) hp9 j0)) ?_
   rintro _ w60 ⟨p57_1, p57_c1, p57_2, p57_c2, p57_3, p57_c3, p57_4, p57_c4, rfl, hn58, hb59⟩
   replace hS := hS.call hb59
   replace hS := hS.addR hn58.s1.rd
   replace hS := hS.addR hn58.s2.rd
   replace hS := hS.addR hn58.s3.rd
   replace hS := hS.addR hn58.s4.rd
   refine ⟨_, rfl, ?_⟩
   intro a hA
   refine seq_store (us := [.bool (rb i1.num), .slice p57_1 ((words i1.num.natAbs).length) p57_c1, .slice p57_2 ((words i1.den).length) p57_c2, .bool (rb i2.num), .slice p57_3 ((words i2.num.natAbs).length) p57_c3, .slice p57_4 ((words i2.den).length) p57_c4]) hA hS rfl rfl (sets_store rfl rfl rfl (by kernel_rfl) hS 0 rfl rfl rfl) 0 rfl rfl rfl rfl ?_
   intro w61 hS
   refine seq_end ?_
   refine hK55 _ _ ?_
   refine wp_seq_k (fun K62 hK62 => ?_)
   refine wp_region_lit ?_
   refine seq_do hA rfl rfl rfl (d_loadS hS SmI_isS_26 rfl 0 rfl (cs := [.bool (rb i1.num), .slice p57_1 ((words i1.num.natAbs).length) p57_c1, .slice p57_2 ((words i1.den).length) p57_c2, .bool (rb i2.num), .slice p57_3 ((words i2.num.natAbs).length) p57_c3, .slice p57_4 ((words i2.den).length) p57_c4]) rfl rfl) ?_
   intro a hA
   refine seq_call hA rfl rfl rfl (enters_func  rfl rfl (fun w => by kernel_rfl)) (rfit_any (show Nm _ (Q6.rat i1 i2) p57_1 p57_c1 p57_2 p57_c2 p57_3 p57_c3 p57_4 p57_c4 from ⟨⟨(hS.rd 3 rfl), hn58.s1.nil, hn58.s1.cap⟩, ⟨(hS.rd 2 rfl), hn58.s2.nil, hn58.s2.cap⟩, ⟨(hS.rd 1 rfl), hn58.s3.nil, hn58.s3.cap⟩, ⟨(hS.rd 0 rfl), hn58.s4.nil, hn58.s4.cap⟩⟩) (LI ((show i = N by omega) ▸ hB9)).1 (LI ((show i = N by omega) ▸ hB9)).2) ?_
   rintro _ w66 ⟨p63_1, p63_c1, p63_2, p63_c2, p63_3, p63_c3, p63_4, p63_c4, rfl, hn64, hb65⟩
   replace hS := hS.call hb65
   replace hS := hS.addR hn64.s1.rd
   replace hS := hS.addR hn64.s2.rd
   replace hS := hS.addR hn64.s3.rd
   replace hS := hS.addR hn64.s4.rd
   refine ⟨_, rfl, ?_⟩
   intro a hA
   refine seq_do (v := .agg #[.bool ((ratS i1 i2).1.b1), .slice p63_1 (((ratS i1 i2).1.t1).length) p63_c1, .slice p63_2 (((ratS i1 i2).1.q1).length) p63_c2, .bool ((ratS i1 i2).1.b2), .slice p63_3 (((ratS i1 i2).1.t2).length) p63_c3, .slice p63_4 (((ratS i1 i2).1.q2).length) p63_c4]) hA rfl rfl rfl (d_extract (vs := [.agg #[.bool ((ratS i1 i2).1.b1), .slice p63_1 (((ratS i1 i2).1.t1).length) p63_c1, .slice p63_2 (((ratS i1 i2).1.q1).length) p63_c2, .bool ((ratS i1 i2).1.b2), .slice p63_3 (((ratS i1 i2).1.t2).length) p63_c3, .slice p63_4 (((ratS i1 i2).1.q2).length) p63_c4], .int .i64 ((ratS i1 i2).2)]) rfl rfl) ?_
   intro a hA
   refine seq_do (v := .int .i64 ((ratS i1 i2).2)) hA rfl rfl rfl (d_extract (vs := [.agg #[.bool ((ratS i1 i2).1.b1), .slice p63_1 (((ratS i1 i2).1.t1).length) p63_c1, .slice p63_2 (((ratS i1 i2).1.q1).length) p63_c2, .bool ((ratS i1 i2).1.b2), .slice p63_3 (((ratS i1 i2).1.t2).length) p63_c3, .slice p63_4 (((ratS i1 i2).1.q2).length) p63_c4], .int .i64 ((ratS i1 i2).2)]) rfl rfl) ?_
   intro a hA
   refine seq_store (us := [.bool ((ratS i1 i2).1.b1), .slice p63_1 (((ratS i1 i2).1.t1).length) p63_c1, .slice p63_2 (((ratS i1 i2).1.q1).length) p63_c2, .bool ((ratS i1 i2).1.b2), .slice p63_3 (((ratS i1 i2).1.t2).length) p63_c3, .slice p63_4 (((ratS i1 i2).1.q2).length) p63_c4]) hA hS rfl rfl (sets_store rfl rfl rfl (by kernel_rfl) hS 1 rfl rfl rfl) 1 rfl rfl rfl rfl ?_
   intro w67 hS
   refine seq_do hA rfl rfl rfl (d_assign rfl) ?_
   intro a hA
   refine seq_end ?_
   refine hK62 _ _ ?_
   refine wp_ret ?_
   refine hret _ _ ?_
   refine ends (v := .tuple #[.agg #[.bool ((ratS i1 i2).1.b1), .slice p63_1 (((ratS i1 i2).1.t1).length) p63_c1, .slice p63_2 (((ratS i1 i2).1.q1).length) p63_c2, .bool ((ratS i1 i2).1.b2), .slice p63_3 (((ratS i1 i2).1.t2).length) p63_c3, .slice p63_4 (((ratS i1 i2).1.q2).length) p63_c4], .int .i64 ((ratS i1 i2).2)]) hA rfl (.cons (res_cell hS SmI_isS_26 rfl 1 rfl (cs := [.bool ((ratS i1 i2).1.b1), .slice p63_1 (((ratS i1 i2).1.t1).length) p63_c1, .slice p63_2 (((ratS i1 i2).1.q1).length) p63_c2, .bool ((ratS i1 i2).1.b2), .slice p63_3 (((ratS i1 i2).1.t2).length) p63_c3, .slice p63_4 (((ratS i1 i2).1.q2).length) p63_c4]) rfl rfl) (.cons (res_tmp rfl) .nil)) rfl ?_
   obtain rfl : i = N := by omega
   rw [exptQ_neg hu hv (by omega) h2 hz, if_pos hB9, j0]
   show AnsN w (ratS i1 i2) _ _
   exact ⟨p63_1, p63_c1, p63_2, p63_c2, p63_3, p63_c3, p63_4, p63_c4, rfl, ⟨⟨(hS.rd 3 rfl), hn64.s1.nil, hn64.s1.cap⟩, ⟨(hS.rd 2 rfl), hn64.s2.nil, hn64.s2.cap⟩, ⟨(hS.rd 1 rfl), hn64.s3.nil, hn64.s3.cap⟩, ⟨(hS.rd 0 rfl), hn64.s4.nil, hn64.s4.cap⟩⟩, hS.bel⟩
theorem rexA1_any {w : World} {u v : Rat} {a1 a2 a3 a4 : Option Addr} {ac1 ac2 ac3 ac4 : Nat} (ha : Nm w (Q6.rat u v) a1 ac1 a2 ac2 a3 ac3 a4 ac4) (hu : fitR u) (hv : fitR v) {n : Int} (hn : n < -1024) : Calls Tryz.prog 31 #[numV (Q6.rat u v) a1 ac1 a2 ac2 a3 ac3 a4 ac4, .int .i64 n] w (AnsN w (exptQ (Q6.rat u v) n)) := by
 have hS : St w w [] [(a4, words v.den), (a3, words v.num.natAbs), (a2, words u.den), (a1, words u.num.natAbs)] [] := ((((St.start w).addR ha.s1.rd).addR ha.s2.rd).addR ha.s3.rd).addR ha.s4.rd
 refine walk_of (l := [(0, .agg #[.bool (rb u.num), .slice a1 ((words u.num.natAbs).length) ac1, .slice a2 ((words u.den).length) ac2, .bool (rb v.num), .slice a3 ((words v.num.natAbs).length) ac3, .slice a4 ((words v.den).length) ac4]), (1, .int .i64 n)]) Tryz.func31 rfl Tryz.ntmps31 rfl rfl ?_
 intro Q hret hnorm hP a hA
 refine wp_seq_k (fun K1 hK1 => ?_)
 refine wp_region_lit ?_
 refine seq_new hA hS rfl rfl rfl (fun g => .pointer (some ⟨g, 0, none⟩)) (d_box rfl rfl) rfl ?_
 intro g2 w3 hS a hA
 refine seq_new (vs := [.bool false, .slice none 0 0, .slice none 0 0, .bool false, .slice none 0 0, .slice none 0 0]) (t := 26) hA hS rfl rfl rfl (fun g => .pointer (some ⟨g, 0, none⟩)) (d_alloc (z := .agg #[.bool false, .slice none 0 0, .slice none 0 0, .bool false, .slice none 0 0, .slice none 0 0]) (by kernel_rfl) rfl) rfl ?_
 intro g4 w5 hS a hA
 refine seq_do hA rfl rfl rfl (d_assign rfl) ?_
 intro a hA
 refine seq_end ?_
 refine hK1 _ _ ?_
 refine wp_seq_k (fun K6 hK6 => ?_)
 refine wp_seq_k (fun K7 hK7 => ?_)
 refine wp_region_lit ?_
 refine seq_do hA rfl rfl rfl (d_loadS hS SmI_isS_26 rfl 1 rfl (cs := [.bool (rb u.num), .slice a1 ((words u.num.natAbs).length) ac1, .slice a2 ((words u.den).length) ac2, .bool (rb v.num), .slice a3 ((words v.num.natAbs).length) ac3, .slice a4 ((words v.den).length) ac4]) rfl rfl) ?_
 intro a hA
 refine seq_call hA rfl rfl rfl (enters_func  rfl rfl (fun w => by kernel_rfl)) (rsoundQ_any (show Nm _ (Q6.rat u v) a1 ac1 a2 ac2 a3 ac3 a4 ac4 from ⟨⟨(hS.rd 3 rfl), ha.s1.nil, ha.s1.cap⟩, ⟨(hS.rd 2 rfl), ha.s2.nil, ha.s2.cap⟩, ⟨(hS.rd 1 rfl), ha.s3.nil, ha.s3.cap⟩, ⟨(hS.rd 0 rfl), ha.s4.nil, ha.s4.cap⟩⟩) (lenQ_rat hu hv) (soundQ_rat hu hv)) ?_
 rintro _ w9 ⟨rfl, hb8⟩
 replace hS := hS.call hb8
 refine ⟨_, rfl, ?_⟩
 intro a hA
 refine seq_do (v := .bool false) hA rfl rfl rfl (d_un rfl un_not) ?_
 intro a hA
 refine seq_end ?_
 refine hK7 _ _ ?_
 refine wp_cond_false (hA.ev rfl) ?_
 refine wp_skip ?_
 refine hK6 _ _ ?_
 refine wp_seq_k (fun K10 hK10 => ?_)
 refine wp_seq_k (fun K11 hK11 => ?_)
 refine wp_region_lit ?_
 refine seq_do hA rfl rfl rfl (d_move rfl) ?_
 intro a hA
 refine seq_do (v := .bool true) hA rfl rfl rfl (d_bin rfl rfl (fun w => (bin_lss w).trans (by rw [show (decide (n < -1024)) = true from (decide_eq_true (by omega))]))) ?_
 intro a hA
 refine seq_do hA rfl rfl rfl (d_move rfl) ?_
 intro a hA
 refine seq_skip hA rfl rfl rfl ?_
 intro a hA
 refine seq_skip hA rfl rfl rfl ?_
 intro a hA
 refine seq_do (v := .bool true) hA rfl rfl rfl (d_pick rfl rfl rfl rfl) ?_
 intro a hA
 refine seq_end ?_
 refine hK11 _ _ ?_
 refine wp_cond_true (hA.ev rfl) ?_
 refine wp_seq_k (fun K12 hK12 => ?_)
 refine wp_region_lit ?_
 refine seq_do (v := .agg #[.bool false, .slice none 0 0, .slice none 0 0, .bool false, .slice none 0 0, .slice none 0 0]) hA rfl rfl rfl (d_build rfl (fun w => by kernel_rfl)) ?_
 intro a hA
 refine seq_store (us := [.bool false, .slice none 0 0, .slice none 0 0, .bool false, .slice none 0 0, .slice none 0 0]) hA hS rfl rfl (sets_store rfl rfl rfl (by kernel_rfl) hS 0 rfl rfl rfl) 0 rfl rfl rfl rfl ?_
 intro w13 hS
 refine seq_do hA rfl rfl rfl (d_assign rfl) ?_
 intro a hA
 refine seq_end ?_
 refine hK12 _ _ ?_
 refine wp_ret ?_
 refine hret _ _ ?_
 refine ends (v := .tuple #[.agg #[.bool false, .slice none 0 0, .slice none 0 0, .bool false, .slice none 0 0, .slice none 0 0], .int .i64 1]) hA rfl (.cons (res_cell hS SmI_isS_26 rfl 0 rfl (cs := [.bool false, .slice none 0 0, .slice none 0 0, .bool false, .slice none 0 0, .slice none 0 0]) rfl rfl) (.cons (res_tmp rfl) .nil)) rfl ?_
 rw [exptQ_arg hu hv (.inl hn)]
 exact ⟨none, 0, none, 0, none, 0, none, 0, rfl, ⟨(Sc.none _), (Sc.none _), (Sc.none _), (Sc.none _)⟩, hS.bel⟩
theorem rexA2_any {w : World} {u v : Rat} {a1 a2 a3 a4 : Option Addr} {ac1 ac2 ac3 ac4 : Nat} (ha : Nm w (Q6.rat u v) a1 ac1 a2 ac2 a3 ac3 a4 ac4) (hu : fitR u) (hv : fitR v) {n : Int} (hn : 1024 < n) : Calls Tryz.prog 31 #[numV (Q6.rat u v) a1 ac1 a2 ac2 a3 ac3 a4 ac4, .int .i64 n] w (AnsN w (exptQ (Q6.rat u v) n)) := by
 have hS : St w w [] [(a4, words v.den), (a3, words v.num.natAbs), (a2, words u.den), (a1, words u.num.natAbs)] [] := ((((St.start w).addR ha.s1.rd).addR ha.s2.rd).addR ha.s3.rd).addR ha.s4.rd
 refine walk_of (l := [(0, .agg #[.bool (rb u.num), .slice a1 ((words u.num.natAbs).length) ac1, .slice a2 ((words u.den).length) ac2, .bool (rb v.num), .slice a3 ((words v.num.natAbs).length) ac3, .slice a4 ((words v.den).length) ac4]), (1, .int .i64 n)]) Tryz.func31 rfl Tryz.ntmps31 rfl rfl ?_
 intro Q hret hnorm hP a hA
 refine wp_seq_k (fun K1 hK1 => ?_)
 refine wp_region_lit ?_
 refine seq_new hA hS rfl rfl rfl (fun g => .pointer (some ⟨g, 0, none⟩)) (d_box rfl rfl) rfl ?_
 intro g2 w3 hS a hA
 refine seq_new (vs := [.bool false, .slice none 0 0, .slice none 0 0, .bool false, .slice none 0 0, .slice none 0 0]) (t := 26) hA hS rfl rfl rfl (fun g => .pointer (some ⟨g, 0, none⟩)) (d_alloc (z := .agg #[.bool false, .slice none 0 0, .slice none 0 0, .bool false, .slice none 0 0, .slice none 0 0]) (by kernel_rfl) rfl) rfl ?_
 intro g4 w5 hS a hA
 refine seq_do hA rfl rfl rfl (d_assign rfl) ?_
 intro a hA
 refine seq_end ?_
 refine hK1 _ _ ?_
 refine wp_seq_k (fun K6 hK6 => ?_)
 refine wp_seq_k (fun K7 hK7 => ?_)
 refine wp_region_lit ?_
 refine seq_do hA rfl rfl rfl (d_loadS hS SmI_isS_26 rfl 1 rfl (cs := [.bool (rb u.num), .slice a1 ((words u.num.natAbs).length) ac1, .slice a2 ((words u.den).length) ac2, .bool (rb v.num), .slice a3 ((words v.num.natAbs).length) ac3, .slice a4 ((words v.den).length) ac4]) rfl rfl) ?_
 intro a hA
 refine seq_call hA rfl rfl rfl (enters_func  rfl rfl (fun w => by kernel_rfl)) (rsoundQ_any (show Nm _ (Q6.rat u v) a1 ac1 a2 ac2 a3 ac3 a4 ac4 from ⟨⟨(hS.rd 3 rfl), ha.s1.nil, ha.s1.cap⟩, ⟨(hS.rd 2 rfl), ha.s2.nil, ha.s2.cap⟩, ⟨(hS.rd 1 rfl), ha.s3.nil, ha.s3.cap⟩, ⟨(hS.rd 0 rfl), ha.s4.nil, ha.s4.cap⟩⟩) (lenQ_rat hu hv) (soundQ_rat hu hv)) ?_
 rintro _ w9 ⟨rfl, hb8⟩
 replace hS := hS.call hb8
 refine ⟨_, rfl, ?_⟩
 intro a hA
 refine seq_do (v := .bool false) hA rfl rfl rfl (d_un rfl un_not) ?_
 intro a hA
 refine seq_end ?_
 refine hK7 _ _ ?_
 refine wp_cond_false (hA.ev rfl) ?_
 refine wp_skip ?_
 refine hK6 _ _ ?_
 refine wp_seq_k (fun K10 hK10 => ?_)
 refine wp_seq_k (fun K11 hK11 => ?_)
 refine wp_region_lit ?_
 refine seq_do hA rfl rfl rfl (d_move rfl) ?_
 intro a hA
 refine seq_do (v := .bool false) hA rfl rfl rfl (d_bin rfl rfl (fun w => (bin_lss w).trans (by rw [show (decide (n < -1024)) = false from (decide_eq_false (by omega))]))) ?_
 intro a hA
 refine seq_do hA rfl rfl rfl (d_move rfl) ?_
 intro a hA
 refine seq_do hA rfl rfl rfl (d_move rfl) ?_
 intro a hA
 refine seq_do (v := .bool true) hA rfl rfl rfl (d_bin rfl rfl (fun w => (bin_gtr w).trans (by rw [show (decide (1024 < n)) = true from (decide_eq_true (by omega))]))) ?_
 intro a hA
 refine seq_do (v := .bool true) hA rfl rfl rfl (d_pick rfl rfl rfl rfl) ?_
 intro a hA
 refine seq_end ?_
 refine hK11 _ _ ?_
 refine wp_cond_true (hA.ev rfl) ?_
 refine wp_seq_k (fun K12 hK12 => ?_)
 refine wp_region_lit ?_
 refine seq_do (v := .agg #[.bool false, .slice none 0 0, .slice none 0 0, .bool false, .slice none 0 0, .slice none 0 0]) hA rfl rfl rfl (d_build rfl (fun w => by kernel_rfl)) ?_
 intro a hA
 refine seq_store (us := [.bool false, .slice none 0 0, .slice none 0 0, .bool false, .slice none 0 0, .slice none 0 0]) hA hS rfl rfl (sets_store rfl rfl rfl (by kernel_rfl) hS 0 rfl rfl rfl) 0 rfl rfl rfl rfl ?_
 intro w13 hS
 refine seq_do hA rfl rfl rfl (d_assign rfl) ?_
 intro a hA
 refine seq_end ?_
 refine hK12 _ _ ?_
 refine wp_ret ?_
 refine hret _ _ ?_
 refine ends (v := .tuple #[.agg #[.bool false, .slice none 0 0, .slice none 0 0, .bool false, .slice none 0 0, .slice none 0 0], .int .i64 1]) hA rfl (.cons (res_cell hS SmI_isS_26 rfl 0 rfl (cs := [.bool false, .slice none 0 0, .slice none 0 0, .bool false, .slice none 0 0, .slice none 0 0]) rfl rfl) (.cons (res_tmp rfl) .nil)) rfl ?_
 rw [exptQ_arg hu hv (.inr hn)]
 exact ⟨none, 0, none, 0, none, 0, none, 0, rfl, ⟨(Sc.none _), (Sc.none _), (Sc.none _), (Sc.none _)⟩, hS.bel⟩
theorem rex0_any {w : World} {u v : Rat} {a1 a2 a3 a4 : Option Addr} {ac1 ac2 ac3 ac4 : Nat} (ha : Nm w (Q6.rat u v) a1 ac1 a2 ac2 a3 ac3 a4 ac4) (hu : fitR u) (hv : fitR v)  : Calls Tryz.prog 31 #[numV (Q6.rat u v) a1 ac1 a2 ac2 a3 ac3 a4 ac4, .int .i64 0] w (AnsN w (exptQ (Q6.rat u v) 0)) := by
 have hS : St w w [] [(a4, words v.den), (a3, words v.num.natAbs), (a2, words u.den), (a1, words u.num.natAbs)] [] := ((((St.start w).addR ha.s1.rd).addR ha.s2.rd).addR ha.s3.rd).addR ha.s4.rd
 refine walk_of (l := [(0, .agg #[.bool (rb u.num), .slice a1 ((words u.num.natAbs).length) ac1, .slice a2 ((words u.den).length) ac2, .bool (rb v.num), .slice a3 ((words v.num.natAbs).length) ac3, .slice a4 ((words v.den).length) ac4]), (1, .int .i64 0)]) Tryz.func31 rfl Tryz.ntmps31 rfl rfl ?_
 intro Q hret hnorm hP a hA
 refine wp_seq_k (fun K1 hK1 => ?_)
 refine wp_region_lit ?_
 refine seq_new hA hS rfl rfl rfl (fun g => .pointer (some ⟨g, 0, none⟩)) (d_box rfl rfl) rfl ?_
 intro g2 w3 hS a hA
 refine seq_new (vs := [.bool false, .slice none 0 0, .slice none 0 0, .bool false, .slice none 0 0, .slice none 0 0]) (t := 26) hA hS rfl rfl rfl (fun g => .pointer (some ⟨g, 0, none⟩)) (d_alloc (z := .agg #[.bool false, .slice none 0 0, .slice none 0 0, .bool false, .slice none 0 0, .slice none 0 0]) (by kernel_rfl) rfl) rfl ?_
 intro g4 w5 hS a hA
 refine seq_do hA rfl rfl rfl (d_assign rfl) ?_
 intro a hA
 refine seq_end ?_
 refine hK1 _ _ ?_
 refine wp_seq_k (fun K6 hK6 => ?_)
 refine wp_seq_k (fun K7 hK7 => ?_)
 refine wp_region_lit ?_
 refine seq_do hA rfl rfl rfl (d_loadS hS SmI_isS_26 rfl 1 rfl (cs := [.bool (rb u.num), .slice a1 ((words u.num.natAbs).length) ac1, .slice a2 ((words u.den).length) ac2, .bool (rb v.num), .slice a3 ((words v.num.natAbs).length) ac3, .slice a4 ((words v.den).length) ac4]) rfl rfl) ?_
 intro a hA
 refine seq_call hA rfl rfl rfl (enters_func  rfl rfl (fun w => by kernel_rfl)) (rsoundQ_any (show Nm _ (Q6.rat u v) a1 ac1 a2 ac2 a3 ac3 a4 ac4 from ⟨⟨(hS.rd 3 rfl), ha.s1.nil, ha.s1.cap⟩, ⟨(hS.rd 2 rfl), ha.s2.nil, ha.s2.cap⟩, ⟨(hS.rd 1 rfl), ha.s3.nil, ha.s3.cap⟩, ⟨(hS.rd 0 rfl), ha.s4.nil, ha.s4.cap⟩⟩) (lenQ_rat hu hv) (soundQ_rat hu hv)) ?_
 rintro _ w9 ⟨rfl, hb8⟩
 replace hS := hS.call hb8
 refine ⟨_, rfl, ?_⟩
 intro a hA
 refine seq_do (v := .bool false) hA rfl rfl rfl (d_un rfl un_not) ?_
 intro a hA
 refine seq_end ?_
 refine hK7 _ _ ?_
 refine wp_cond_false (hA.ev rfl) ?_
 refine wp_skip ?_
 refine hK6 _ _ ?_
 refine wp_seq_k (fun K10 hK10 => ?_)
 refine wp_seq_k (fun K11 hK11 => ?_)
 refine wp_region_lit ?_
 refine seq_do hA rfl rfl rfl (d_move rfl) ?_
 intro a hA
 refine seq_do (v := .bool false) hA rfl rfl rfl (d_bin rfl rfl (fun w => by kernel_rfl)) ?_
 intro a hA
 refine seq_do hA rfl rfl rfl (d_move rfl) ?_
 intro a hA
 refine seq_do hA rfl rfl rfl (d_move rfl) ?_
 intro a hA
 refine seq_do (v := .bool false) hA rfl rfl rfl (d_bin rfl rfl (fun w => by kernel_rfl)) ?_
 intro a hA
 refine seq_do (v := .bool false) hA rfl rfl rfl (d_pick rfl rfl rfl rfl) ?_
 intro a hA
 refine seq_end ?_
 refine hK11 _ _ ?_
 refine wp_cond_false (hA.ev rfl) ?_
 refine wp_skip ?_
 refine hK10 _ _ ?_
 refine wp_seq_k (fun K12 hK12 => ?_)
 refine wp_seq_k (fun K13 hK13 => ?_)
 refine wp_region_lit ?_
 refine seq_do hA rfl rfl rfl (d_move rfl) ?_
 intro a hA
 refine seq_do (v := .bool true) hA rfl rfl rfl (d_bin rfl rfl (fun w => by kernel_rfl)) ?_
 intro a hA
 refine seq_end ?_
 refine hK13 _ _ ?_
 refine wp_cond_true (hA.ev rfl) ?_
 refine wp_seq_k (fun K14 hK14 => ?_)
 refine wp_region_lit ?_
 refine seq_call hA rfl rfl rfl (enters_func  rfl rfl (fun w => by kernel_rfl)) (rintP_any (k := 1) (by decide)) ?_
 rintro _ w18 ⟨p15_1, p15_c1, p15_2, p15_c2, p15_3, p15_c3, p15_4, p15_c4, rfl, hn16, hb17⟩
 replace hS := hS.call hb17
 replace hS := hS.addR hn16.s1.rd
 replace hS := hS.addR hn16.s2.rd
 replace hS := hS.addR hn16.s3.rd
 replace hS := hS.addR hn16.s4.rd
 refine ⟨_, rfl, ?_⟩
 intro a hA
 refine seq_store (us := [.bool false, .slice p15_1 ((words 1).length) p15_c1, .slice p15_2 1 p15_c2, .bool false, .slice p15_3 0 p15_c3, .slice p15_4 1 p15_c4]) hA hS rfl rfl (sets_store rfl rfl rfl (by kernel_rfl) hS 0 rfl rfl rfl) 0 rfl rfl rfl rfl ?_
 intro w19 hS
 refine seq_do hA rfl rfl rfl (d_assign rfl) ?_
 intro a hA
 refine seq_end ?_
 refine hK14 _ _ ?_
 refine wp_ret ?_
 refine hret _ _ ?_
 refine ends (v := .tuple #[.agg #[.bool false, .slice p15_1 ((words 1).length) p15_c1, .slice p15_2 1 p15_c2, .bool false, .slice p15_3 0 p15_c3, .slice p15_4 1 p15_c4], .int .i64 0]) hA rfl (.cons (res_cell hS SmI_isS_26 rfl 0 rfl (cs := [.bool false, .slice p15_1 ((words 1).length) p15_c1, .slice p15_2 1 p15_c2, .bool false, .slice p15_3 0 p15_c3, .slice p15_4 1 p15_c4]) rfl rfl) (.cons (res_tmp rfl) .nil)) rfl ?_
 rw [exptQ_0 hu hv]
 exact ⟨p15_1, p15_c1, p15_2, p15_c2, p15_3, p15_c3, p15_4, p15_c4, rfl, ⟨⟨(hS.rd 3 rfl), hn16.s1.nil, hn16.s1.cap⟩, ⟨(hS.rd 2 rfl), hn16.s2.nil, hn16.s2.cap⟩, ⟨(hS.rd 1 rfl), hn16.s3.nil, hn16.s3.cap⟩, ⟨(hS.rd 0 rfl), hn16.s4.nil, hn16.s4.cap⟩⟩, hS.bel⟩
theorem rexZ_any {w : World} {u v : Rat} {a1 a2 a3 a4 : Option Addr} {ac1 ac2 ac3 ac4 : Nat} (ha : Nm w (Q6.rat u v) a1 ac1 a2 ac2 a3 ac3 a4 ac4) (hu : fitR u) (hv : fitR v) {N : Nat} (h1 : 1 ≤ N) (h2 : N ≤ 1024) (hz : u = 0 ∧ v = 0) : Calls Tryz.prog 31 #[numV (Q6.rat u v) a1 ac1 a2 ac2 a3 ac3 a4 ac4, .int .i64 (-((N : Nat) : Int))] w (AnsN w (exptQ (Q6.rat u v) (-((N : Nat) : Int)))) := by
 have hS : St w w [] [(a4, words v.den), (a3, words v.num.natAbs), (a2, words u.den), (a1, words u.num.natAbs)] [] := ((((St.start w).addR ha.s1.rd).addR ha.s2.rd).addR ha.s3.rd).addR ha.s4.rd
 refine walk_of (l := [(0, .agg #[.bool (rb u.num), .slice a1 ((words u.num.natAbs).length) ac1, .slice a2 ((words u.den).length) ac2, .bool (rb v.num), .slice a3 ((words v.num.natAbs).length) ac3, .slice a4 ((words v.den).length) ac4]), (1, .int .i64 (-((N : Nat) : Int)))]) Tryz.func31 rfl Tryz.ntmps31 rfl rfl ?_
 intro Q hret hnorm hP a hA
 refine wp_seq_k (fun K1 hK1 => ?_)
 refine wp_region_lit ?_
 refine seq_new hA hS rfl rfl rfl (fun g => .pointer (some ⟨g, 0, none⟩)) (d_box rfl rfl) rfl ?_
 intro g2 w3 hS a hA
 refine seq_new (vs := [.bool false, .slice none 0 0, .slice none 0 0, .bool false, .slice none 0 0, .slice none 0 0]) (t := 26) hA hS rfl rfl rfl (fun g => .pointer (some ⟨g, 0, none⟩)) (d_alloc (z := .agg #[.bool false, .slice none 0 0, .slice none 0 0, .bool false, .slice none 0 0, .slice none 0 0]) (by kernel_rfl) rfl) rfl ?_
 intro g4 w5 hS a hA
 refine seq_do hA rfl rfl rfl (d_assign rfl) ?_
 intro a hA
 refine seq_end ?_
 refine hK1 _ _ ?_
 refine wp_seq_k (fun K6 hK6 => ?_)
 refine wp_seq_k (fun K7 hK7 => ?_)
 refine wp_region_lit ?_
 refine seq_do hA rfl rfl rfl (d_loadS hS SmI_isS_26 rfl 1 rfl (cs := [.bool (rb u.num), .slice a1 ((words u.num.natAbs).length) ac1, .slice a2 ((words u.den).length) ac2, .bool (rb v.num), .slice a3 ((words v.num.natAbs).length) ac3, .slice a4 ((words v.den).length) ac4]) rfl rfl) ?_
 intro a hA
 refine seq_call hA rfl rfl rfl (enters_func  rfl rfl (fun w => by kernel_rfl)) (rsoundQ_any (show Nm _ (Q6.rat u v) a1 ac1 a2 ac2 a3 ac3 a4 ac4 from ⟨⟨(hS.rd 3 rfl), ha.s1.nil, ha.s1.cap⟩, ⟨(hS.rd 2 rfl), ha.s2.nil, ha.s2.cap⟩, ⟨(hS.rd 1 rfl), ha.s3.nil, ha.s3.cap⟩, ⟨(hS.rd 0 rfl), ha.s4.nil, ha.s4.cap⟩⟩) (lenQ_rat hu hv) (soundQ_rat hu hv)) ?_
 rintro _ w9 ⟨rfl, hb8⟩
 replace hS := hS.call hb8
 refine ⟨_, rfl, ?_⟩
 intro a hA
 refine seq_do (v := .bool false) hA rfl rfl rfl (d_un rfl un_not) ?_
 intro a hA
 refine seq_end ?_
 refine hK7 _ _ ?_
 refine wp_cond_false (hA.ev rfl) ?_
 refine wp_skip ?_
 refine hK6 _ _ ?_
 refine wp_seq_k (fun K10 hK10 => ?_)
 refine wp_seq_k (fun K11 hK11 => ?_)
 refine wp_region_lit ?_
 refine seq_do hA rfl rfl rfl (d_move rfl) ?_
 intro a hA
 refine seq_do (v := .bool false) hA rfl rfl rfl (d_bin rfl rfl (fun w => (bin_lss w).trans (by rw [show (decide (-((N : Nat) : Int) < -1024)) = false from (decide_eq_false (by omega))]))) ?_
 intro a hA
 refine seq_do hA rfl rfl rfl (d_move rfl) ?_
 intro a hA
 refine seq_do hA rfl rfl rfl (d_move rfl) ?_
 intro a hA
 refine seq_do (v := .bool false) hA rfl rfl rfl (d_bin rfl rfl (fun w => (bin_gtr w).trans (by rw [show (decide (1024 < -((N : Nat) : Int))) = false from (decide_eq_false (by omega))]))) ?_
 intro a hA
 refine seq_do (v := .bool false) hA rfl rfl rfl (d_pick rfl rfl rfl rfl) ?_
 intro a hA
 refine seq_end ?_
 refine hK11 _ _ ?_
 refine wp_cond_false (hA.ev rfl) ?_
 refine wp_skip ?_
 refine hK10 _ _ ?_
 refine wp_seq_k (fun K12 hK12 => ?_)
 refine wp_seq_k (fun K13 hK13 => ?_)
 refine wp_region_lit ?_
 refine seq_do hA rfl rfl rfl (d_move rfl) ?_
 intro a hA
 refine seq_do (v := .bool false) hA rfl rfl rfl (d_bin rfl rfl (fun w => (bin_eql w).trans (by rw [show ((-((N : Nat) : Int) == 0)) = false from (beq_eq_false_iff_ne.2 (by omega))]))) ?_
 intro a hA
 refine seq_end ?_
 refine hK13 _ _ ?_
 refine wp_cond_false (hA.ev rfl) ?_
 refine wp_skip ?_
 refine hK12 _ _ ?_
 refine wp_seq_k (fun K14 hK14 => ?_)
 refine wp_seq_k (fun K15 hK15 => ?_)
 refine wp_region_lit ?_
 refine seq_do hA rfl rfl rfl (d_loadS hS SmI_isS_26 rfl 1 rfl (cs := [.bool (rb u.num), .slice a1 ((words u.num.natAbs).length) ac1, .slice a2 ((words u.den).length) ac2, .bool (rb v.num), .slice a3 ((words v.num.natAbs).length) ac3, .slice a4 ((words v.den).length) ac4]) rfl rfl) ?_
 intro a hA
 refine seq_call hA rfl rfl rfl (enters_func  rfl rfl (fun w => by kernel_rfl)) (risZero_any (show Nm _ (Q6.rat u v) a1 ac1 a2 ac2 a3 ac3 a4 ac4 from ⟨⟨(hS.rd 3 rfl), ha.s1.nil, ha.s1.cap⟩, ⟨(hS.rd 2 rfl), ha.s2.nil, ha.s2.cap⟩, ⟨(hS.rd 1 rfl), ha.s3.nil, ha.s3.cap⟩, ⟨(hS.rd 0 rfl), ha.s4.nil, ha.s4.cap⟩⟩) hu hv (decide_eq_true hz)) ?_
 rintro _ w17 ⟨rfl, hb16⟩
 replace hS := hS.call hb16
 refine ⟨_, rfl, ?_⟩
 intro a hA
 refine seq_do hA rfl rfl rfl (d_move rfl) ?_
 intro a hA
 refine seq_do hA rfl rfl rfl (d_move rfl) ?_
 intro a hA
 refine seq_do (v := .bool true) hA rfl rfl rfl (d_bin rfl rfl (fun w => (bin_lss w).trans (by rw [show (decide (-((N : Nat) : Int) < 0)) = true from (decide_eq_true (by omega))]))) ?_
 intro a hA
 refine seq_do (v := .bool true) hA rfl rfl rfl (d_pick rfl rfl rfl rfl) ?_
 intro a hA
 refine seq_end ?_
 refine hK15 _ _ ?_
 refine wp_cond_true (hA.ev rfl) ?_
 refine wp_seq_k (fun K18 hK18 => ?_)
 refine wp_region_lit ?_
 refine seq_do (v := .agg #[.bool false, .slice none 0 0, .slice none 0 0, .bool false, .slice none 0 0, .slice none 0 0]) hA rfl rfl rfl (d_build rfl (fun w => by kernel_rfl)) ?_
 intro a hA
 refine seq_store (us := [.bool false, .slice none 0 0, .slice none 0 0, .bool false, .slice none 0 0, .slice none 0 0]) hA hS rfl rfl (sets_store rfl rfl rfl (by kernel_rfl) hS 0 rfl rfl rfl) 0 rfl rfl rfl rfl ?_
 intro w19 hS
 refine seq_do hA rfl rfl rfl (d_assign rfl) ?_
 intro a hA
 refine seq_end ?_
 refine hK18 _ _ ?_
 refine wp_ret ?_
 refine hret _ _ ?_
 refine ends (v := .tuple #[.agg #[.bool false, .slice none 0 0, .slice none 0 0, .bool false, .slice none 0 0, .slice none 0 0], .int .i64 3]) hA rfl (.cons (res_cell hS SmI_isS_26 rfl 0 rfl (cs := [.bool false, .slice none 0 0, .slice none 0 0, .bool false, .slice none 0 0, .slice none 0 0]) rfl rfl) (.cons (res_tmp rfl) .nil)) rfl ?_
 rw [exptQ_z hu hv h1 h2 hz]
 exact ⟨none, 0, none, 0, none, 0, none, 0, rfl, ⟨(Sc.none _), (Sc.none _), (Sc.none _), (Sc.none _)⟩, hS.bel⟩
theorem rexE_any {w : World} {q : Q6} {a1 a2 a3 a4 : Option Addr} {ac1 ac2 ac3 ac4 : Nat} (ha : Nm w q a1 ac1 a2 ac2 a3 ac3 a4 ac4) (hl : LenQ q) {n : Int} (hs : soundQ q = false) : Calls Tryz.prog 31 #[numV q a1 ac1 a2 ac2 a3 ac3 a4 ac4, .int .i64 n] w (AnsN w (exptQ q n)) := by
 have hS : St w w [] [(a4, q.q2), (a3, q.t2), (a2, q.q1), (a1, q.t1)] [] := ((((St.start w).addR ha.s1.rd).addR ha.s2.rd).addR ha.s3.rd).addR ha.s4.rd
 refine walk_of (l := [(0, .agg #[.bool q.b1, .slice a1 q.t1.length ac1, .slice a2 q.q1.length ac2, .bool q.b2, .slice a3 q.t2.length ac3, .slice a4 q.q2.length ac4]), (1, .int .i64 n)]) Tryz.func31 rfl Tryz.ntmps31 rfl rfl ?_
 intro Q hret hnorm hP a hA
 refine wp_seq_k (fun K1 hK1 => ?_)
 refine wp_region_lit ?_
 refine seq_new hA hS rfl rfl rfl (fun g => .pointer (some ⟨g, 0, none⟩)) (d_box rfl rfl) rfl ?_
 intro g2 w3 hS a hA
 refine seq_new (vs := [.bool false, .slice none 0 0, .slice none 0 0, .bool false, .slice none 0 0, .slice none 0 0]) (t := 26) hA hS rfl rfl rfl (fun g => .pointer (some ⟨g, 0, none⟩)) (d_alloc (z := .agg #[.bool false, .slice none 0 0, .slice none 0 0, .bool false, .slice none 0 0, .slice none 0 0]) (by kernel_rfl) rfl) rfl ?_
 intro g4 w5 hS a hA
 refine seq_do hA rfl rfl rfl (d_assign rfl) ?_
 intro a hA
 refine seq_end ?_
 refine hK1 _ _ ?_
 refine wp_seq_k (fun K6 hK6 => ?_)
 refine wp_seq_k (fun K7 hK7 => ?_)
 refine wp_region_lit ?_
 refine seq_do hA rfl rfl rfl (d_loadS hS SmI_isS_26 rfl 1 rfl (cs := [.bool q.b1, .slice a1 q.t1.length ac1, .slice a2 q.q1.length ac2, .bool q.b2, .slice a3 q.t2.length ac3, .slice a4 q.q2.length ac4]) rfl rfl) ?_
 intro a hA
 refine seq_call hA rfl rfl rfl (enters_func  rfl rfl (fun w => by kernel_rfl)) (rsoundQ_any (show Nm _ _ a1 ac1 a2 ac2 a3 ac3 a4 ac4 from ⟨⟨(hS.rd 3 rfl), ha.s1.nil, ha.s1.cap⟩, ⟨(hS.rd 2 rfl), ha.s2.nil, ha.s2.cap⟩, ⟨(hS.rd 1 rfl), ha.s3.nil, ha.s3.cap⟩, ⟨(hS.rd 0 rfl), ha.s4.nil, ha.s4.cap⟩⟩) hl hs) ?_
 rintro _ w9 ⟨rfl, hb8⟩
 replace hS := hS.call hb8
 refine ⟨_, rfl, ?_⟩
 intro a hA
 refine seq_do (v := .bool true) hA rfl rfl rfl (d_un rfl un_not) ?_
 intro a hA
 refine seq_end ?_
 refine hK7 _ _ ?_
 refine wp_cond_true (hA.ev rfl) ?_
 refine wp_seq_k (fun K10 hK10 => ?_)
 refine wp_region_lit ?_
 refine seq_do (v := .agg #[.bool false, .slice none 0 0, .slice none 0 0, .bool false, .slice none 0 0, .slice none 0 0]) hA rfl rfl rfl (d_build rfl (fun w => by kernel_rfl)) ?_
 intro a hA
 refine seq_store (us := [.bool false, .slice none 0 0, .slice none 0 0, .bool false, .slice none 0 0, .slice none 0 0]) hA hS rfl rfl (sets_store rfl rfl rfl (by kernel_rfl) hS 0 rfl rfl rfl) 0 rfl rfl rfl rfl ?_
 intro w11 hS
 refine seq_do hA rfl rfl rfl (d_assign rfl) ?_
 intro a hA
 refine seq_end ?_
 refine hK10 _ _ ?_
 refine wp_ret ?_
 refine hret _ _ ?_
 refine ends (v := .tuple #[.agg #[.bool false, .slice none 0 0, .slice none 0 0, .bool false, .slice none 0 0, .slice none 0 0], .int .i64 2]) hA rfl (.cons (res_cell hS SmI_isS_26 rfl 0 rfl (cs := [.bool false, .slice none 0 0, .slice none 0 0, .bool false, .slice none 0 0, .slice none 0 0]) rfl rfl) (.cons (res_tmp rfl) .nil)) rfl ?_
 rw [exptQ_bad hs]
 exact ⟨none, 0, none, 0, none, 0, none, 0, rfl, ⟨(Sc.none _), (Sc.none _), (Sc.none _), (Sc.none _)⟩, hS.bel⟩
theorem pwB_fit9 {u v : Rat} {N : Nat} (h1 : 1 ≤ N) (h : pwB u v N = true) : fitR (pwR u v N).1 ∧ fitR (pwR u v N).2 := by
  obtain ⟨k, rfl⟩ : ∃ k, N = k + 1 := ⟨N - 1, by omega⟩
  unfold pwB at h
  rw [Bool.and_eq_true] at h
  exact fitB_ok h.2
theorem rexptQ_any {w : World} {q : Q6} {a1 a2 a3 a4 : Option Addr} {ac1 ac2 ac3 ac4 : Nat} (ha : Nm w q a1 ac1 a2 ac2 a3 ac3 a4 ac4) (hl : LenQ q) {n : Int} : Calls Tryz.prog 31 #[numV q a1 ac1 a2 ac2 a3 ac3 a4 ac4, .int .i64 n] w (AnsN w (exptQ q n)) := by
  rcases sound_cases ha with hs | ⟨u, v, rfl, hu, hv⟩
  · exact rexE_any ha hl hs
  by_cases n1 : n < -1024
  · exact rexA1_any ha hu hv n1
  by_cases n2 : 1024 < n
  · exact rexA2_any ha hu hv n2
  by_cases n3 : n = 0
  · subst n3
    exact rex0_any ha hu hv
  have LU := fit_lenR hu
  have LV := fit_lenR hv
  by_cases n4 : n < 0
  · obtain ⟨N, rfl⟩ : ∃ N : Nat, n = -(N : Int) := ⟨n.natAbs, by omega⟩
    by_cases hz : u = 0 ∧ v = 0
    · exact rexZ_any ha hu hv (by omega) (by omega) hz
    · obtain ⟨i1, i2, j0⟩ : ∃ i1 i2, ivR (pwR u v N) = (i1, i2) := ⟨_, _, rfl⟩
      have LI : pwB u v N = true → LenR 9000 i1 ∧ LenR 9000 i2 := fun hB => by
        have hf := pwB_fit9 (by omega) hB
        have hi := lenR_iv (fit_lenR hf.1) (fit_lenR hf.2) (pwR_ne hz N)
        have e1 : (pwR u v N).1 / ((pwR u v N).1 * (pwR u v N).1 + (pwR u v N).2 * (pwR u v N).2) = i1 := congrArg Prod.fst j0
        have e2 : -(pwR u v N).2 / ((pwR u v N).1 * (pwR u v N).1 + (pwR u v N).2 * (pwR u v N).2) = i2 := congrArg Prod.snd j0
        rw [e1, e2] at hi
        exact hi
      by_cases k2 : (Q6.rat u v).t2.length = 0
      · have hv0 := real_zero k2
        cases hsu : rb u.num with
        | false => exact rexRfM_any ha hu hv (by omega) (by omega) hz (decide_eq_true k2) hv0 hsu LU j0 LI
        | true => exact rexRtM_any ha hu hv (by omega) (by omega) hz (decide_eq_true k2) hv0 hsu LU j0 LI
      · exact rexCM_any ha hu hv (by omega) (by omega) hz (decide_eq_false k2) LU LV j0 LI
  · obtain ⟨N, rfl⟩ : ∃ N : Nat, n = (N : Int) := ⟨n.natAbs, by omega⟩
    by_cases k2 : (Q6.rat u v).t2.length = 0
    · have hv0 := real_zero k2
      cases hsu : rb u.num with
      | false => exact rexRfP_any ha hu hv (by omega) (by omega) (decide_eq_true k2) hv0 hsu LU
      | true => exact rexRtP_any ha hu hv (by omega) (by omega) (decide_eq_true k2) hv0 hsu LU
    · exact rexCP_any ha hu hv (by omega) (by omega) (decide_eq_false k2) LU LV
theorem rexptQ_as {w : World} {q : Q6} {a1 a2 a3 a4 : Option Addr} {ac1 ac2 ac3 ac4 : Nat} (ha : Nm w q a1 ac1 a2 ac2 a3 ac3 a4 ac4) (hl : LenQ q) {n : Int} {z : Q6 × Int} (hz : exptQ q n = z) : Calls Tryz.prog 31 #[numV q a1 ac1 a2 ac2 a3 ac3 a4 ac4, .int .i64 n] w (AnsN w z) := hz ▸ rexptQ_any ha hl
end Go.Proofs.YthlkbnhbmfmchaaGreat
namespace Go.Proofs.YthlkbnhbmfmchaaGreat
open Go.RowKit
set_option linter.unusedVariables false
set_option linter.unusedSimpArgs false
set_option maxRecDepth 100000
theorem SmJ_is1_22 : Is1 Tryz.prog 22 := ⟨⟨_, Tryz.underlying22, rfl⟩, by kernel_rfl⟩
theorem SmJ_fld_24_1 : FieldAt Tryz.prog 24 1 1 := ⟨_, _, Tryz.underlying24, rfl, rfl, by kernel_rfl⟩
theorem SmJ_fld_24_2 : FieldAt Tryz.prog 24 2 2 := ⟨_, _, Tryz.underlying24, rfl, rfl, by kernel_rfl⟩
theorem SmJ_fld_26_0 : FieldAt Tryz.prog 26 0 0 := ⟨_, _, Tryz.underlying26, rfl, rfl, by kernel_rfl⟩
theorem SmJ_fld_26_1 : FieldAt Tryz.prog 26 1 3 := ⟨_, _, Tryz.underlying26, rfl, rfl, by kernel_rfl⟩
theorem SmJ_isS_26 : IsS Tryz.prog 26 6 := ⟨⟨_, Tryz.underlying26⟩, by kernel_rfl⟩
set_option maxHeartbeats 1000000 in
theorem powersW_any {w : World} {p : Q6} {a1 a2 a3 a4 : Option Addr} {ac1 ac2 ac3 ac4 : Nat} (ha : Nm w p a1 ac1 a2 ac2 a3 ac3 a4 ac4) (hl : LenQ p) {n : Int} {Z : Int → Q6 × Int} (eZ : ∀ m, exptQ p m = Z m) (lZ : ∀ m, LenQ (Z m).1) : Calls Tryz.prog 5 #[numV p a1 ac1 a2 ac2 a3 ac3 a4 ac4, .int .i64 n] w fun e w' => e = .returned (.bool true) ∧ Below w.heap.size w w' := by
 have hS : St w w [] [(a4, p.q2), (a3, p.t2), (a2, p.q1), (a1, p.t1)] [] := ((((St.start w).addR ha.s1.rd).addR ha.s2.rd).addR ha.s3.rd).addR ha.s4.rd
 refine walk_of (l := [(0, .agg #[.bool p.b1, .slice a1 p.t1.length ac1, .slice a2 p.q1.length ac2, .bool p.b2, .slice a3 p.t2.length ac3, .slice a4 p.q2.length ac4]), (1, .int .i64 n)]) Tryz.func5 rfl Tryz.ntmps5 rfl rfl ?_
 intro Q hret hnorm hP a hA
 refine wp_seq_k (fun K1 hK1 => ?_)
 refine wp_region_lit ?_
 refine seq_new hA hS rfl rfl rfl (fun g => .pointer (some ⟨g, 0, none⟩)) (d_box rfl rfl) rfl ?_
 intro g2 w3 hS a hA
 refine seq_do hA rfl rfl rfl (d_assign rfl) ?_
 intro a hA
 refine seq_end ?_
 refine hK1 _ _ ?_
 refine wp_seq_k (fun K4 hK4 => ?_)
 refine wp_seq_k (fun K5 hK5 => ?_)
 refine wp_region_lit ?_
 refine seq_do (v := .pointer (some ⟨g2, 3, none⟩)) hA rfl rfl rfl (d_field SmJ_fld_26_1 rfl rfl) ?_
 intro a hA
 refine seq_do (v := .pointer (some ⟨g2, 4, none⟩)) hA rfl rfl rfl (d_field SmJ_fld_24_1 rfl rfl) ?_
 intro a hA
 refine seq_do hA rfl rfl rfl (d_load1 hS SmJ_is1_22 rfl 0 rfl rfl) ?_
 intro a hA
 refine seq_do (v := .int .i64 (((p.t2.length : Nat) : Int))) hA rfl rfl rfl (d_len Tryz.underlying22 rfl) ?_
 intro a hA
 rcases Bool.eq_false_or_eq_true (decide (0 < ((p.t2.length : Nat) : Int))) with hb6 | hb6
 · have hb6' := of_decide_eq_true hb6
   refine seq_do (v := .bool true) hA rfl rfl rfl (d_bin rfl rfl (fun w => (bin_gtr w).trans (by rw [hb6]))) ?_
   intro a hA
   refine seq_do hA rfl rfl rfl (d_move rfl) ?_
   intro a hA
   refine seq_do hA rfl rfl rfl (d_move rfl) ?_
   intro a hA
   rcases Bool.eq_false_or_eq_true (decide (-1024 ≤ n)) with hb7 | hb7
   · have hb7' := of_decide_eq_true hb7
     refine seq_do (v := .bool true) hA rfl rfl rfl (d_bin rfl rfl (fun w => (bin_geq w).trans (by rw [hb7]))) ?_
     intro a hA
     refine seq_do (v := .bool true) hA rfl rfl rfl (d_pick rfl rfl rfl rfl) ?_
     intro a hA
     refine seq_do hA rfl rfl rfl (d_move rfl) ?_
     intro a hA
     refine seq_do hA rfl rfl rfl (d_move rfl) ?_
     intro a hA
     rcases Bool.eq_false_or_eq_true (decide (n ≤ 1024)) with hb8 | hb8
     · have hb8' := of_decide_eq_true hb8
       refine seq_do (v := .bool true) hA rfl rfl rfl (d_bin rfl rfl (fun w => (bin_leq w).trans (by rw [hb8]))) ?_
       intro a hA
       refine seq_do (v := .bool true) hA rfl rfl rfl (d_pick rfl rfl rfl rfl) ?_
       intro a hA
       refine seq_end ?_
       refine hK5 _ _ ?_
       refine wp_cond_true (hA.ev rfl) ?_
       refine wp_seq_k (fun K9 hK9 => ?_)
       refine wp_region_lit ?_
       refine seq_do hA rfl rfl rfl (d_move rfl) ?_
       intro a hA
       refine seq_do (v := .int .i64 (n.tmod 40)) hA rfl rfl rfl (d_bin rfl rfl (ar_rem (by decide) rfl)) ?_
       intro a hA
       refine seq_do hA rfl rfl rfl (d_assign rfl) ?_
       intro a hA
       refine seq_end ?_
       refine hK9 _ _ ?_
       refine wp_seq_k (fun K10 hK10 => ?_)
       refine wp_region_lit ?_
       refine seq_do (v := .pointer (some ⟨g2, 0, none⟩)) hA rfl rfl rfl (d_field SmJ_fld_26_0 rfl rfl) ?_
       intro a hA
       refine seq_do (v := .pointer (some ⟨g2, 1, none⟩)) hA rfl rfl rfl (d_field SmJ_fld_24_1 rfl rfl) ?_
       intro a hA
       refine seq_do hA rfl rfl rfl (d_load1 hS SmJ_is1_22 rfl 0 rfl rfl) ?_
       intro a hA
       refine seq_do (v := .int .i64 (((p.t1.length : Nat) : Int))) hA rfl rfl rfl (d_len Tryz.underlying22 rfl) ?_
       intro a hA
       refine seq_do (v := .pointer (some ⟨g2, 0, none⟩)) hA rfl rfl rfl (d_field SmJ_fld_26_0 rfl rfl) ?_
       intro a hA
       refine seq_do (v := .pointer (some ⟨g2, 2, none⟩)) hA rfl rfl rfl (d_field SmJ_fld_24_2 rfl rfl) ?_
       intro a hA
       refine seq_do hA rfl rfl rfl (d_load1 hS SmJ_is1_22 rfl 0 rfl rfl) ?_
       intro a hA
       refine seq_do (v := .int .i64 (((p.q1.length : Nat) : Int))) hA rfl rfl rfl (d_len Tryz.underlying22 rfl) ?_
       intro a hA
       refine seq_do (v := .int .i64 (IntKind.i64.wrap (((p.t1.length : Nat) : Int) + ((p.q1.length : Nat) : Int)))) hA rfl rfl rfl (d_bin rfl rfl (ar_add rfl)) ?_
       intro a hA
       refine seq_do (v := .pointer (some ⟨g2, 3, none⟩)) hA rfl rfl rfl (d_field SmJ_fld_26_1 rfl rfl) ?_
       intro a hA
       refine seq_do (v := .pointer (some ⟨g2, 4, none⟩)) hA rfl rfl rfl (d_field SmJ_fld_24_1 rfl rfl) ?_
       intro a hA
       refine seq_do hA rfl rfl rfl (d_load1 hS SmJ_is1_22 rfl 0 rfl rfl) ?_
       intro a hA
       refine seq_do (v := .int .i64 (((p.t2.length : Nat) : Int))) hA rfl rfl rfl (d_len Tryz.underlying22 rfl) ?_
       intro a hA
       refine seq_do (v := .int .i64 (IntKind.i64.wrap (IntKind.i64.wrap (((p.t1.length : Nat) : Int) + ((p.q1.length : Nat) : Int)) + ((p.t2.length : Nat) : Int)))) hA rfl rfl rfl (d_bin rfl rfl (ar_add rfl)) ?_
       intro a hA
       refine seq_do (v := .pointer (some ⟨g2, 3, none⟩)) hA rfl rfl rfl (d_field SmJ_fld_26_1 rfl rfl) ?_
       intro a hA
       refine seq_do (v := .pointer (some ⟨g2, 5, none⟩)) hA rfl rfl rfl (d_field SmJ_fld_24_2 rfl rfl) ?_
       intro a hA
       refine seq_do hA rfl rfl rfl (d_load1 hS SmJ_is1_22 rfl 0 rfl rfl) ?_
       intro a hA
       refine seq_do (v := .int .i64 (((p.q2.length : Nat) : Int))) hA rfl rfl rfl (d_len Tryz.underlying22 rfl) ?_
       intro a hA
       refine seq_do (v := .int .i64 (IntKind.i64.wrap (IntKind.i64.wrap (IntKind.i64.wrap (((p.t1.length : Nat) : Int) + ((p.q1.length : Nat) : Int)) + ((p.t2.length : Nat) : Int)) + ((p.q2.length : Nat) : Int)))) hA rfl rfl rfl (d_bin rfl rfl (ar_add rfl)) ?_
       intro a hA
       rcases Bool.eq_false_or_eq_true (decide (10 < IntKind.i64.wrap (IntKind.i64.wrap (IntKind.i64.wrap (((p.t1.length : Nat) : Int) + ((p.q1.length : Nat) : Int)) + ((p.t2.length : Nat) : Int)) + ((p.q2.length : Nat) : Int)))) with hb11 | hb11
       · have hb11' := of_decide_eq_true hb11
         refine seq_do (v := .bool true) hA rfl rfl rfl (d_bin rfl rfl (fun w => (bin_gtr w).trans (by rw [hb11]))) ?_
         intro a hA
         refine seq_end ?_
         refine hK10 _ _ ?_
         refine wp_cond_true (hA.ev rfl) ?_
         refine wp_region_lit ?_
         refine seq_do hA rfl rfl rfl (d_move rfl) ?_
         intro a hA
         refine seq_do (v := .int .i64 ((n.tmod 40).tmod 8)) hA rfl rfl rfl (d_bin rfl rfl (ar_rem (by decide) rfl)) ?_
         intro a hA
         refine seq_do hA rfl rfl rfl (d_assign rfl) ?_
         intro a hA
         refine seq_end ?_
         refine hK4 _ _ ?_
         refine wp_seq_k (fun K12 hK12 => ?_)
         refine wp_region_lit ?_
         refine seq_do hA rfl rfl rfl (d_loadS hS SmJ_isS_26 rfl 0 rfl (cs := [.bool p.b1, .slice a1 p.t1.length ac1, .slice a2 p.q1.length ac2, .bool p.b2, .slice a3 p.t2.length ac3, .slice a4 p.q2.length ac4]) rfl rfl) ?_
         intro a hA
         refine seq_do hA rfl rfl rfl (d_move rfl) ?_
         intro a hA
         refine seq_call hA rfl rfl rfl (enters_func  rfl rfl (fun w => by kernel_rfl)) (exptQ_as (show Nm _ p a1 ac1 a2 ac2 a3 ac3 a4 ac4 from ⟨⟨(hS.rd 3 rfl), ha.s1.nil, ha.s1.cap⟩, ⟨(hS.rd 2 rfl), ha.s2.nil, ha.s2.cap⟩, ⟨(hS.rd 1 rfl), ha.s3.nil, ha.s3.cap⟩, ⟨(hS.rd 0 rfl), ha.s4.nil, ha.s4.cap⟩⟩) hl (eZ _)) ?_
         rintro _ w16 ⟨p13_1, p13_c1, p13_2, p13_c2, p13_3, p13_c3, p13_4, p13_c4, rfl, hn14, hb15⟩
         replace hS := hS.call hb15
         replace hS := hS.addR hn14.s1.rd
         replace hS := hS.addR hn14.s2.rd
         replace hS := hS.addR hn14.s3.rd
         replace hS := hS.addR hn14.s4.rd
         refine ⟨_, rfl, ?_⟩
         intro a hA
         refine seq_do hA rfl rfl rfl (d_move rfl) ?_
         intro a hA
         refine seq_do (v := .agg #[.bool ((Z ((n.tmod 40).tmod 8)).1.b1), .slice p13_1 (((Z ((n.tmod 40).tmod 8)).1.t1).length) p13_c1, .slice p13_2 (((Z ((n.tmod 40).tmod 8)).1.q1).length) p13_c2, .bool ((Z ((n.tmod 40).tmod 8)).1.b2), .slice p13_3 (((Z ((n.tmod 40).tmod 8)).1.t2).length) p13_c3, .slice p13_4 (((Z ((n.tmod 40).tmod 8)).1.q2).length) p13_c4]) hA rfl rfl rfl (d_extract (vs := [.agg #[.bool ((Z ((n.tmod 40).tmod 8)).1.b1), .slice p13_1 (((Z ((n.tmod 40).tmod 8)).1.t1).length) p13_c1, .slice p13_2 (((Z ((n.tmod 40).tmod 8)).1.q1).length) p13_c2, .bool ((Z ((n.tmod 40).tmod 8)).1.b2), .slice p13_3 (((Z ((n.tmod 40).tmod 8)).1.t2).length) p13_c3, .slice p13_4 (((Z ((n.tmod 40).tmod 8)).1.q2).length) p13_c4], .int .i64 ((Z ((n.tmod 40).tmod 8)).2)]) rfl rfl) ?_
         intro a hA
         refine seq_do (v := .int .i64 ((Z ((n.tmod 40).tmod 8)).2)) hA rfl rfl rfl (d_extract (vs := [.agg #[.bool ((Z ((n.tmod 40).tmod 8)).1.b1), .slice p13_1 (((Z ((n.tmod 40).tmod 8)).1.t1).length) p13_c1, .slice p13_2 (((Z ((n.tmod 40).tmod 8)).1.q1).length) p13_c2, .bool ((Z ((n.tmod 40).tmod 8)).1.b2), .slice p13_3 (((Z ((n.tmod 40).tmod 8)).1.t2).length) p13_c3, .slice p13_4 (((Z ((n.tmod 40).tmod 8)).1.q2).length) p13_c4], .int .i64 ((Z ((n.tmod 40).tmod 8)).2)]) rfl rfl) ?_
         intro a hA
         refine seq_new (vs := [.bool false, .slice none 0 0, .slice none 0 0, .bool false, .slice none 0 0, .slice none 0 0]) (t := 26) hA hS rfl rfl rfl (fun g => .pointer (some ⟨g, 0, none⟩)) (d_alloc (z := .agg #[.bool false, .slice none 0 0, .slice none 0 0, .bool false, .slice none 0 0, .slice none 0 0]) (by kernel_rfl) rfl) rfl ?_
         intro g17 w18 hS a hA
         refine seq_store (us := [.bool ((Z ((n.tmod 40).tmod 8)).1.b1), .slice p13_1 (((Z ((n.tmod 40).tmod 8)).1.t1).length) p13_c1, .slice p13_2 (((Z ((n.tmod 40).tmod 8)).1.q1).length) p13_c2, .bool ((Z ((n.tmod 40).tmod 8)).1.b2), .slice p13_3 (((Z ((n.tmod 40).tmod 8)).1.t2).length) p13_c3, .slice p13_4 (((Z ((n.tmod 40).tmod 8)).1.q2).length) p13_c4]) hA hS rfl rfl (sets_store rfl rfl rfl (by kernel_rfl) hS 0 rfl rfl rfl) 0 rfl rfl rfl rfl ?_
         intro w19 hS
         refine seq_do hA rfl rfl rfl (d_assign rfl) ?_
         intro a hA
         refine seq_end ?_
         refine hK12 _ _ ?_
         refine wp_seq_k (fun K20 hK20 => ?_)
         refine wp_region_lit ?_
         refine seq_do hA rfl rfl rfl (d_loadS hS SmJ_isS_26 rfl 1 rfl (cs := [.bool p.b1, .slice a1 p.t1.length ac1, .slice a2 p.q1.length ac2, .bool p.b2, .slice a3 p.t2.length ac3, .slice a4 p.q2.length ac4]) rfl rfl) ?_
         intro a hA
         refine seq_do hA rfl rfl rfl (d_move rfl) ?_
         intro a hA
         refine seq_call hA rfl rfl rfl (enters_func  rfl rfl (fun w => by kernel_rfl)) (rexptQ_as (show Nm _ p a1 ac1 a2 ac2 a3 ac3 a4 ac4 from ⟨⟨(hS.rd 7 rfl), ha.s1.nil, ha.s1.cap⟩, ⟨(hS.rd 6 rfl), ha.s2.nil, ha.s2.cap⟩, ⟨(hS.rd 5 rfl), ha.s3.nil, ha.s3.cap⟩, ⟨(hS.rd 4 rfl), ha.s4.nil, ha.s4.cap⟩⟩) hl (eZ _)) ?_
         rintro _ w24 ⟨p21_1, p21_c1, p21_2, p21_c2, p21_3, p21_c3, p21_4, p21_c4, rfl, hn22, hb23⟩
         replace hS := hS.call hb23
         replace hS := hS.addR hn22.s1.rd
         replace hS := hS.addR hn22.s2.rd
         replace hS := hS.addR hn22.s3.rd
         replace hS := hS.addR hn22.s4.rd
         refine ⟨_, rfl, ?_⟩
         intro a hA
         refine seq_do hA rfl rfl rfl (d_move rfl) ?_
         intro a hA
         refine seq_do (v := .agg #[.bool ((Z ((n.tmod 40).tmod 8)).1.b1), .slice p21_1 (((Z ((n.tmod 40).tmod 8)).1.t1).length) p21_c1, .slice p21_2 (((Z ((n.tmod 40).tmod 8)).1.q1).length) p21_c2, .bool ((Z ((n.tmod 40).tmod 8)).1.b2), .slice p21_3 (((Z ((n.tmod 40).tmod 8)).1.t2).length) p21_c3, .slice p21_4 (((Z ((n.tmod 40).tmod 8)).1.q2).length) p21_c4]) hA rfl rfl rfl (d_extract (vs := [.agg #[.bool ((Z ((n.tmod 40).tmod 8)).1.b1), .slice p21_1 (((Z ((n.tmod 40).tmod 8)).1.t1).length) p21_c1, .slice p21_2 (((Z ((n.tmod 40).tmod 8)).1.q1).length) p21_c2, .bool ((Z ((n.tmod 40).tmod 8)).1.b2), .slice p21_3 (((Z ((n.tmod 40).tmod 8)).1.t2).length) p21_c3, .slice p21_4 (((Z ((n.tmod 40).tmod 8)).1.q2).length) p21_c4], .int .i64 ((Z ((n.tmod 40).tmod 8)).2)]) rfl rfl) ?_
         intro a hA
         refine seq_do (v := .int .i64 ((Z ((n.tmod 40).tmod 8)).2)) hA rfl rfl rfl (d_extract (vs := [.agg #[.bool ((Z ((n.tmod 40).tmod 8)).1.b1), .slice p21_1 (((Z ((n.tmod 40).tmod 8)).1.t1).length) p21_c1, .slice p21_2 (((Z ((n.tmod 40).tmod 8)).1.q1).length) p21_c2, .bool ((Z ((n.tmod 40).tmod 8)).1.b2), .slice p21_3 (((Z ((n.tmod 40).tmod 8)).1.t2).length) p21_c3, .slice p21_4 (((Z ((n.tmod 40).tmod 8)).1.q2).length) p21_c4], .int .i64 ((Z ((n.tmod 40).tmod 8)).2)]) rfl rfl) ?_
         intro a hA
         refine seq_new (vs := [.bool false, .slice none 0 0, .slice none 0 0, .bool false, .slice none 0 0, .slice none 0 0]) (t := 26) hA hS rfl rfl rfl (fun g => .pointer (some ⟨g, 0, none⟩)) (d_alloc (z := .agg #[.bool false, .slice none 0 0, .slice none 0 0, .bool false, .slice none 0 0, .slice none 0 0]) (by kernel_rfl) rfl) rfl ?_
         intro g25 w26 hS a hA
         refine seq_store (us := [.bool ((Z ((n.tmod 40).tmod 8)).1.b1), .slice p21_1 (((Z ((n.tmod 40).tmod 8)).1.t1).length) p21_c1, .slice p21_2 (((Z ((n.tmod 40).tmod 8)).1.q1).length) p21_c2, .bool ((Z ((n.tmod 40).tmod 8)).1.b2), .slice p21_3 (((Z ((n.tmod 40).tmod 8)).1.t2).length) p21_c3, .slice p21_4 (((Z ((n.tmod 40).tmod 8)).1.q2).length) p21_c4]) hA hS rfl rfl (sets_store rfl rfl rfl (by kernel_rfl) hS 0 rfl rfl rfl) 0 rfl rfl rfl rfl ?_
         intro w27 hS
         refine seq_do hA rfl rfl rfl (d_assign rfl) ?_
         intro a hA
         refine seq_end ?_
         refine hK20 _ _ ?_
         refine wp_seq_k (fun K28 hK28 => ?_)
         refine wp_region_lit ?_
         refine seq_call hA rfl rfl rfl (enters_func  rfl rfl (fun w => by kernel_rfl)) (awake3_any) ?_
         rintro _ w30 ⟨rfl, hb29⟩
         replace hS := hS.call hb29
         refine ⟨_, rfl, ?_⟩
         intro a hA
         refine seq_do hA rfl rfl rfl (d_move rfl) ?_
         intro a hA
         refine seq_do hA rfl rfl rfl (d_loadS hS SmJ_isS_26 rfl 1 rfl (cs := [.bool ((Z ((n.tmod 40).tmod 8)).1.b1), .slice p13_1 (((Z ((n.tmod 40).tmod 8)).1.t1).length) p13_c1, .slice p13_2 (((Z ((n.tmod 40).tmod 8)).1.q1).length) p13_c2, .bool ((Z ((n.tmod 40).tmod 8)).1.b2), .slice p13_3 (((Z ((n.tmod 40).tmod 8)).1.t2).length) p13_c3, .slice p13_4 (((Z ((n.tmod 40).tmod 8)).1.q2).length) p13_c4]) rfl rfl) ?_
         intro a hA
         refine seq_do hA rfl rfl rfl (d_loadS hS SmJ_isS_26 rfl 0 rfl (cs := [.bool ((Z ((n.tmod 40).tmod 8)).1.b1), .slice p21_1 (((Z ((n.tmod 40).tmod 8)).1.t1).length) p21_c1, .slice p21_2 (((Z ((n.tmod 40).tmod 8)).1.q1).length) p21_c2, .bool ((Z ((n.tmod 40).tmod 8)).1.b2), .slice p21_3 (((Z ((n.tmod 40).tmod 8)).1.t2).length) p21_c3, .slice p21_4 (((Z ((n.tmod 40).tmod 8)).1.q2).length) p21_c4]) rfl rfl) ?_
         intro a hA
         refine seq_call hA rfl rfl rfl (enters_func  rfl rfl (fun w => by kernel_rfl)) (alike_any (show Nm _ (Z ((n.tmod 40).tmod 8)).1 p13_1 p13_c1 p13_2 p13_c2 p13_3 p13_c3 p13_4 p13_c4 from ⟨⟨(hS.rd 7 rfl), hn14.s1.nil, hn14.s1.cap⟩, ⟨(hS.rd 6 rfl), hn14.s2.nil, hn14.s2.cap⟩, ⟨(hS.rd 5 rfl), hn14.s3.nil, hn14.s3.cap⟩, ⟨(hS.rd 4 rfl), hn14.s4.nil, hn14.s4.cap⟩⟩) (lZ _) ⟨⟨(hS.rd 3 rfl), hn22.s1.nil, hn22.s1.cap⟩, ⟨(hS.rd 2 rfl), hn22.s2.nil, hn22.s2.cap⟩, ⟨(hS.rd 1 rfl), hn22.s3.nil, hn22.s3.cap⟩, ⟨(hS.rd 0 rfl), hn22.s4.nil, hn22.s4.cap⟩⟩) ?_
         rintro _ w32 ⟨rfl, hb31⟩
         replace hS := hS.call hb31
         refine ⟨_, rfl, ?_⟩
         intro a hA
         refine seq_do (v := .bool true) hA rfl rfl rfl (d_pick rfl rfl rfl rfl) ?_
         intro a hA
         refine seq_do hA rfl rfl rfl (d_move rfl) ?_
         intro a hA
         refine seq_do hA rfl rfl rfl (d_move rfl) ?_
         intro a hA
         refine seq_do hA rfl rfl rfl (d_move rfl) ?_
         intro a hA
         refine seq_do (v := .bool true) hA rfl rfl rfl (d_bin rfl rfl (fun w => (bin_eql w).trans (by rw [show (((Z ((n.tmod 40).tmod 8)).2 == (Z ((n.tmod 40).tmod 8)).2)) = true from (beq_self_eq_true _)]))) ?_
         intro a hA
         refine seq_do (v := .bool true) hA rfl rfl rfl (d_pick rfl rfl rfl rfl) ?_
         intro a hA
         refine seq_do hA rfl rfl rfl (d_assign rfl) ?_
         intro a hA
         refine seq_end ?_
         refine hK28 _ _ ?_
         refine wp_ret ?_
         refine hret _ _ ?_
         refine ends (v := .bool true) hA rfl (.cons (res_tmp rfl) .nil) rfl ?_
         exact ⟨rfl, hS.bel⟩
       · have hb11' := of_decide_eq_false hb11
         refine seq_do (v := .bool false) hA rfl rfl rfl (d_bin rfl rfl (fun w => (bin_gtr w).trans (by rw [hb11]))) ?_
         intro a hA
         refine seq_end ?_
         refine hK10 _ _ ?_
         refine wp_cond_false (hA.ev rfl) ?_
         refine wp_skip ?_
         refine hK4 _ _ ?_
         refine wp_seq_k (fun K33 hK33 => ?_)
         refine wp_region_lit ?_
         refine seq_do hA rfl rfl rfl (d_loadS hS SmJ_isS_26 rfl 0 rfl (cs := [.bool p.b1, .slice a1 p.t1.length ac1, .slice a2 p.q1.length ac2, .bool p.b2, .slice a3 p.t2.length ac3, .slice a4 p.q2.length ac4]) rfl rfl) ?_
         intro a hA
         refine seq_do hA rfl rfl rfl (d_move rfl) ?_
         intro a hA
         refine seq_call hA rfl rfl rfl (enters_func  rfl rfl (fun w => by kernel_rfl)) (exptQ_as (show Nm _ p a1 ac1 a2 ac2 a3 ac3 a4 ac4 from ⟨⟨(hS.rd 3 rfl), ha.s1.nil, ha.s1.cap⟩, ⟨(hS.rd 2 rfl), ha.s2.nil, ha.s2.cap⟩, ⟨(hS.rd 1 rfl), ha.s3.nil, ha.s3.cap⟩, ⟨(hS.rd 0 rfl), ha.s4.nil, ha.s4.cap⟩⟩) hl (eZ _)) ?_
         rintro _ w37 ⟨p34_1, p34_c1, p34_2, p34_c2, p34_3, p34_c3, p34_4, p34_c4, rfl, hn35, hb36⟩
         replace hS := hS.call hb36
         replace hS := hS.addR hn35.s1.rd
         replace hS := hS.addR hn35.s2.rd
         replace hS := hS.addR hn35.s3.rd
         replace hS := hS.addR hn35.s4.rd
         refine ⟨_, rfl, ?_⟩
         intro a hA
         refine seq_do hA rfl rfl rfl (d_move rfl) ?_
         intro a hA
         refine seq_do (v := .agg #[.bool ((Z (n.tmod 40)).1.b1), .slice p34_1 (((Z (n.tmod 40)).1.t1).length) p34_c1, .slice p34_2 (((Z (n.tmod 40)).1.q1).length) p34_c2, .bool ((Z (n.tmod 40)).1.b2), .slice p34_3 (((Z (n.tmod 40)).1.t2).length) p34_c3, .slice p34_4 (((Z (n.tmod 40)).1.q2).length) p34_c4]) hA rfl rfl rfl (d_extract (vs := [.agg #[.bool ((Z (n.tmod 40)).1.b1), .slice p34_1 (((Z (n.tmod 40)).1.t1).length) p34_c1, .slice p34_2 (((Z (n.tmod 40)).1.q1).length) p34_c2, .bool ((Z (n.tmod 40)).1.b2), .slice p34_3 (((Z (n.tmod 40)).1.t2).length) p34_c3, .slice p34_4 (((Z (n.tmod 40)).1.q2).length) p34_c4], .int .i64 ((Z (n.tmod 40)).2)]) rfl rfl) ?_
         intro a hA
         refine seq_do (v := .int .i64 ((Z (n.tmod 40)).2)) hA rfl rfl rfl (d_extract (vs := [.agg #[.bool ((Z (n.tmod 40)).1.b1), .slice p34_1 (((Z (n.tmod 40)).1.t1).length) p34_c1, .slice p34_2 (((Z (n.tmod 40)).1.q1).length) p34_c2, .bool ((Z (n.tmod 40)).1.b2), .slice p34_3 (((Z (n.tmod 40)).1.t2).length) p34_c3, .slice p34_4 (((Z (n.tmod 40)).1.q2).length) p34_c4], .int .i64 ((Z (n.tmod 40)).2)]) rfl rfl) ?_
         intro a hA
         refine seq_new (vs := [.bool false, .slice none 0 0, .slice none 0 0, .bool false, .slice none 0 0, .slice none 0 0]) (t := 26) hA hS rfl rfl rfl (fun g => .pointer (some ⟨g, 0, none⟩)) (d_alloc (z := .agg #[.bool false, .slice none 0 0, .slice none 0 0, .bool false, .slice none 0 0, .slice none 0 0]) (by kernel_rfl) rfl) rfl ?_
         intro g38 w39 hS a hA
         refine seq_store (us := [.bool ((Z (n.tmod 40)).1.b1), .slice p34_1 (((Z (n.tmod 40)).1.t1).length) p34_c1, .slice p34_2 (((Z (n.tmod 40)).1.q1).length) p34_c2, .bool ((Z (n.tmod 40)).1.b2), .slice p34_3 (((Z (n.tmod 40)).1.t2).length) p34_c3, .slice p34_4 (((Z (n.tmod 40)).1.q2).length) p34_c4]) hA hS rfl rfl (sets_store rfl rfl rfl (by kernel_rfl) hS 0 rfl rfl rfl) 0 rfl rfl rfl rfl ?_
         intro w40 hS
         refine seq_do hA rfl rfl rfl (d_assign rfl) ?_
         intro a hA
         refine seq_end ?_
         refine hK33 _ _ ?_
         refine wp_seq_k (fun K41 hK41 => ?_)
         refine wp_region_lit ?_
         refine seq_do hA rfl rfl rfl (d_loadS hS SmJ_isS_26 rfl 1 rfl (cs := [.bool p.b1, .slice a1 p.t1.length ac1, .slice a2 p.q1.length ac2, .bool p.b2, .slice a3 p.t2.length ac3, .slice a4 p.q2.length ac4]) rfl rfl) ?_
         intro a hA
         refine seq_do hA rfl rfl rfl (d_move rfl) ?_
         intro a hA
         refine seq_call hA rfl rfl rfl (enters_func  rfl rfl (fun w => by kernel_rfl)) (rexptQ_as (show Nm _ p a1 ac1 a2 ac2 a3 ac3 a4 ac4 from ⟨⟨(hS.rd 7 rfl), ha.s1.nil, ha.s1.cap⟩, ⟨(hS.rd 6 rfl), ha.s2.nil, ha.s2.cap⟩, ⟨(hS.rd 5 rfl), ha.s3.nil, ha.s3.cap⟩, ⟨(hS.rd 4 rfl), ha.s4.nil, ha.s4.cap⟩⟩) hl (eZ _)) ?_
         rintro _ w45 ⟨p42_1, p42_c1, p42_2, p42_c2, p42_3, p42_c3, p42_4, p42_c4, rfl, hn43, hb44⟩
         replace hS := hS.call hb44
         replace hS := hS.addR hn43.s1.rd
         replace hS := hS.addR hn43.s2.rd
         replace hS := hS.addR hn43.s3.rd
         replace hS := hS.addR hn43.s4.rd
         refine ⟨_, rfl, ?_⟩
         intro a hA
         refine seq_do hA rfl rfl rfl (d_move rfl) ?_
         intro a hA
         refine seq_do (v := .agg #[.bool ((Z (n.tmod 40)).1.b1), .slice p42_1 (((Z (n.tmod 40)).1.t1).length) p42_c1, .slice p42_2 (((Z (n.tmod 40)).1.q1).length) p42_c2, .bool ((Z (n.tmod 40)).1.b2), .slice p42_3 (((Z (n.tmod 40)).1.t2).length) p42_c3, .slice p42_4 (((Z (n.tmod 40)).1.q2).length) p42_c4]) hA rfl rfl rfl (d_extract (vs := [.agg #[.bool ((Z (n.tmod 40)).1.b1), .slice p42_1 (((Z (n.tmod 40)).1.t1).length) p42_c1, .slice p42_2 (((Z (n.tmod 40)).1.q1).length) p42_c2, .bool ((Z (n.tmod 40)).1.b2), .slice p42_3 (((Z (n.tmod 40)).1.t2).length) p42_c3, .slice p42_4 (((Z (n.tmod 40)).1.q2).length) p42_c4], .int .i64 ((Z (n.tmod 40)).2)]) rfl rfl) ?_
         intro a hA
         refine seq_do (v := .int .i64 ((Z (n.tmod 40)).2)) hA rfl rfl rfl (d_extract (vs := [.agg #[.bool ((Z (n.tmod 40)).1.b1), .slice p42_1 (((Z (n.tmod 40)).1.t1).length) p42_c1, .slice p42_2 (((Z (n.tmod 40)).1.q1).length) p42_c2, .bool ((Z (n.tmod 40)).1.b2), .slice p42_3 (((Z (n.tmod 40)).1.t2).length) p42_c3, .slice p42_4 (((Z (n.tmod 40)).1.q2).length) p42_c4], .int .i64 ((Z (n.tmod 40)).2)]) rfl rfl) ?_
         intro a hA
         refine seq_new (vs := [.bool false, .slice none 0 0, .slice none 0 0, .bool false, .slice none 0 0, .slice none 0 0]) (t := 26) hA hS rfl rfl rfl (fun g => .pointer (some ⟨g, 0, none⟩)) (d_alloc (z := .agg #[.bool false, .slice none 0 0, .slice none 0 0, .bool false, .slice none 0 0, .slice none 0 0]) (by kernel_rfl) rfl) rfl ?_
         intro g46 w47 hS a hA
         refine seq_store (us := [.bool ((Z (n.tmod 40)).1.b1), .slice p42_1 (((Z (n.tmod 40)).1.t1).length) p42_c1, .slice p42_2 (((Z (n.tmod 40)).1.q1).length) p42_c2, .bool ((Z (n.tmod 40)).1.b2), .slice p42_3 (((Z (n.tmod 40)).1.t2).length) p42_c3, .slice p42_4 (((Z (n.tmod 40)).1.q2).length) p42_c4]) hA hS rfl rfl (sets_store rfl rfl rfl (by kernel_rfl) hS 0 rfl rfl rfl) 0 rfl rfl rfl rfl ?_
         intro w48 hS
         refine seq_do hA rfl rfl rfl (d_assign rfl) ?_
         intro a hA
         refine seq_end ?_
         refine hK41 _ _ ?_
         refine wp_seq_k (fun K49 hK49 => ?_)
         refine wp_region_lit ?_
         refine seq_call hA rfl rfl rfl (enters_func  rfl rfl (fun w => by kernel_rfl)) (awake3_any) ?_
         rintro _ w51 ⟨rfl, hb50⟩
         replace hS := hS.call hb50
         refine ⟨_, rfl, ?_⟩
         intro a hA
         refine seq_do hA rfl rfl rfl (d_move rfl) ?_
         intro a hA
         refine seq_do hA rfl rfl rfl (d_loadS hS SmJ_isS_26 rfl 1 rfl (cs := [.bool ((Z (n.tmod 40)).1.b1), .slice p34_1 (((Z (n.tmod 40)).1.t1).length) p34_c1, .slice p34_2 (((Z (n.tmod 40)).1.q1).length) p34_c2, .bool ((Z (n.tmod 40)).1.b2), .slice p34_3 (((Z (n.tmod 40)).1.t2).length) p34_c3, .slice p34_4 (((Z (n.tmod 40)).1.q2).length) p34_c4]) rfl rfl) ?_
         intro a hA
         refine seq_do hA rfl rfl rfl (d_loadS hS SmJ_isS_26 rfl 0 rfl (cs := [.bool ((Z (n.tmod 40)).1.b1), .slice p42_1 (((Z (n.tmod 40)).1.t1).length) p42_c1, .slice p42_2 (((Z (n.tmod 40)).1.q1).length) p42_c2, .bool ((Z (n.tmod 40)).1.b2), .slice p42_3 (((Z (n.tmod 40)).1.t2).length) p42_c3, .slice p42_4 (((Z (n.tmod 40)).1.q2).length) p42_c4]) rfl rfl) ?_
         intro a hA
         refine seq_call hA rfl rfl rfl (enters_func  rfl rfl (fun w => by kernel_rfl)) (alike_any (show Nm _ (Z (n.tmod 40)).1 p34_1 p34_c1 p34_2 p34_c2 p34_3 p34_c3 p34_4 p34_c4 from ⟨⟨(hS.rd 7 rfl), hn35.s1.nil, hn35.s1.cap⟩, ⟨(hS.rd 6 rfl), hn35.s2.nil, hn35.s2.cap⟩, ⟨(hS.rd 5 rfl), hn35.s3.nil, hn35.s3.cap⟩, ⟨(hS.rd 4 rfl), hn35.s4.nil, hn35.s4.cap⟩⟩) (lZ _) ⟨⟨(hS.rd 3 rfl), hn43.s1.nil, hn43.s1.cap⟩, ⟨(hS.rd 2 rfl), hn43.s2.nil, hn43.s2.cap⟩, ⟨(hS.rd 1 rfl), hn43.s3.nil, hn43.s3.cap⟩, ⟨(hS.rd 0 rfl), hn43.s4.nil, hn43.s4.cap⟩⟩) ?_
         rintro _ w53 ⟨rfl, hb52⟩
         replace hS := hS.call hb52
         refine ⟨_, rfl, ?_⟩
         intro a hA
         refine seq_do (v := .bool true) hA rfl rfl rfl (d_pick rfl rfl rfl rfl) ?_
         intro a hA
         refine seq_do hA rfl rfl rfl (d_move rfl) ?_
         intro a hA
         refine seq_do hA rfl rfl rfl (d_move rfl) ?_
         intro a hA
         refine seq_do hA rfl rfl rfl (d_move rfl) ?_
         intro a hA
         refine seq_do (v := .bool true) hA rfl rfl rfl (d_bin rfl rfl (fun w => (bin_eql w).trans (by rw [show (((Z (n.tmod 40)).2 == (Z (n.tmod 40)).2)) = true from (beq_self_eq_true _)]))) ?_
         intro a hA
         refine seq_do (v := .bool true) hA rfl rfl rfl (d_pick rfl rfl rfl rfl) ?_
         intro a hA
         refine seq_do hA rfl rfl rfl (d_assign rfl) ?_
         intro a hA
         refine seq_end ?_
         refine hK49 _ _ ?_
         refine wp_ret ?_
         refine hret _ _ ?_
         refine ends (v := .bool true) hA rfl (.cons (res_tmp rfl) .nil) rfl ?_
         exact ⟨rfl, hS.bel⟩
     · have hb8' := of_decide_eq_false hb8
       refine seq_do (v := .bool false) hA rfl rfl rfl (d_bin rfl rfl (fun w => (bin_leq w).trans (by rw [hb8]))) ?_
       intro a hA
       refine seq_do (v := .bool false) hA rfl rfl rfl (d_pick rfl rfl rfl rfl) ?_
       intro a hA
       refine seq_end ?_
       refine hK5 _ _ ?_
       refine wp_cond_false (hA.ev rfl) ?_
       refine wp_skip ?_
       refine hK4 _ _ ?_
       refine wp_seq_k (fun K54 hK54 => ?_)
       refine wp_region_lit ?_
       refine seq_do hA rfl rfl rfl (d_loadS hS SmJ_isS_26 rfl 0 rfl (cs := [.bool p.b1, .slice a1 p.t1.length ac1, .slice a2 p.q1.length ac2, .bool p.b2, .slice a3 p.t2.length ac3, .slice a4 p.q2.length ac4]) rfl rfl) ?_
       intro a hA
       refine seq_do hA rfl rfl rfl (d_move rfl) ?_
       intro a hA
       refine seq_call hA rfl rfl rfl (enters_func  rfl rfl (fun w => by kernel_rfl)) (exptQ_as (show Nm _ p a1 ac1 a2 ac2 a3 ac3 a4 ac4 from ⟨⟨(hS.rd 3 rfl), ha.s1.nil, ha.s1.cap⟩, ⟨(hS.rd 2 rfl), ha.s2.nil, ha.s2.cap⟩, ⟨(hS.rd 1 rfl), ha.s3.nil, ha.s3.cap⟩, ⟨(hS.rd 0 rfl), ha.s4.nil, ha.s4.cap⟩⟩) hl (eZ _)) ?_
       rintro _ w58 ⟨p55_1, p55_c1, p55_2, p55_c2, p55_3, p55_c3, p55_4, p55_c4, rfl, hn56, hb57⟩
       replace hS := hS.call hb57
       replace hS := hS.addR hn56.s1.rd
       replace hS := hS.addR hn56.s2.rd
       replace hS := hS.addR hn56.s3.rd
       replace hS := hS.addR hn56.s4.rd
       refine ⟨_, rfl, ?_⟩
       intro a hA
       refine seq_do hA rfl rfl rfl (d_move rfl) ?_
       intro a hA
       refine seq_do (v := .agg #[.bool ((Z n).1.b1), .slice p55_1 (((Z n).1.t1).length) p55_c1, .slice p55_2 (((Z n).1.q1).length) p55_c2, .bool ((Z n).1.b2), .slice p55_3 (((Z n).1.t2).length) p55_c3, .slice p55_4 (((Z n).1.q2).length) p55_c4]) hA rfl rfl rfl (d_extract (vs := [.agg #[.bool ((Z n).1.b1), .slice p55_1 (((Z n).1.t1).length) p55_c1, .slice p55_2 (((Z n).1.q1).length) p55_c2, .bool ((Z n).1.b2), .slice p55_3 (((Z n).1.t2).length) p55_c3, .slice p55_4 (((Z n).1.q2).length) p55_c4], .int .i64 ((Z n).2)]) rfl rfl) ?_
       intro a hA
       refine seq_do (v := .int .i64 ((Z n).2)) hA rfl rfl rfl (d_extract (vs := [.agg #[.bool ((Z n).1.b1), .slice p55_1 (((Z n).1.t1).length) p55_c1, .slice p55_2 (((Z n).1.q1).length) p55_c2, .bool ((Z n).1.b2), .slice p55_3 (((Z n).1.t2).length) p55_c3, .slice p55_4 (((Z n).1.q2).length) p55_c4], .int .i64 ((Z n).2)]) rfl rfl) ?_
       intro a hA
       refine seq_new (vs := [.bool false, .slice none 0 0, .slice none 0 0, .bool false, .slice none 0 0, .slice none 0 0]) (t := 26) hA hS rfl rfl rfl (fun g => .pointer (some ⟨g, 0, none⟩)) (d_alloc (z := .agg #[.bool false, .slice none 0 0, .slice none 0 0, .bool false, .slice none 0 0, .slice none 0 0]) (by kernel_rfl) rfl) rfl ?_
       intro g59 w60 hS a hA
       refine seq_store (us := [.bool ((Z n).1.b1), .slice p55_1 (((Z n).1.t1).length) p55_c1, .slice p55_2 (((Z n).1.q1).length) p55_c2, .bool ((Z n).1.b2), .slice p55_3 (((Z n).1.t2).length) p55_c3, .slice p55_4 (((Z n).1.q2).length) p55_c4]) hA hS rfl rfl (sets_store rfl rfl rfl (by kernel_rfl) hS 0 rfl rfl rfl) 0 rfl rfl rfl rfl ?_
       intro w61 hS
       refine seq_do hA rfl rfl rfl (d_assign rfl) ?_
       intro a hA
       refine seq_end ?_
       refine hK54 _ _ ?_
       refine wp_seq_k (fun K62 hK62 => ?_)
       refine wp_region_lit ?_
       refine seq_do hA rfl rfl rfl (d_loadS hS SmJ_isS_26 rfl 1 rfl (cs := [.bool p.b1, .slice a1 p.t1.length ac1, .slice a2 p.q1.length ac2, .bool p.b2, .slice a3 p.t2.length ac3, .slice a4 p.q2.length ac4]) rfl rfl) ?_
       intro a hA
       refine seq_do hA rfl rfl rfl (d_move rfl) ?_
       intro a hA
       refine seq_call hA rfl rfl rfl (enters_func  rfl rfl (fun w => by kernel_rfl)) (rexptQ_as (show Nm _ p a1 ac1 a2 ac2 a3 ac3 a4 ac4 from ⟨⟨(hS.rd 7 rfl), ha.s1.nil, ha.s1.cap⟩, ⟨(hS.rd 6 rfl), ha.s2.nil, ha.s2.cap⟩, ⟨(hS.rd 5 rfl), ha.s3.nil, ha.s3.cap⟩, ⟨(hS.rd 4 rfl), ha.s4.nil, ha.s4.cap⟩⟩) hl (eZ _)) ?_
       rintro _ w66 ⟨p63_1, p63_c1, p63_2, p63_c2, p63_3, p63_c3, p63_4, p63_c4, rfl, hn64, hb65⟩
       replace hS := hS.call hb65
       replace hS := hS.addR hn64.s1.rd
       replace hS := hS.addR hn64.s2.rd
       replace hS := hS.addR hn64.s3.rd
       replace hS := hS.addR hn64.s4.rd
       refine ⟨_, rfl, ?_⟩
       intro a hA
       refine seq_do hA rfl rfl rfl (d_move rfl) ?_
       intro a hA
       refine seq_do (v := .agg #[.bool ((Z n).1.b1), .slice p63_1 (((Z n).1.t1).length) p63_c1, .slice p63_2 (((Z n).1.q1).length) p63_c2, .bool ((Z n).1.b2), .slice p63_3 (((Z n).1.t2).length) p63_c3, .slice p63_4 (((Z n).1.q2).length) p63_c4]) hA rfl rfl rfl (d_extract (vs := [.agg #[.bool ((Z n).1.b1), .slice p63_1 (((Z n).1.t1).length) p63_c1, .slice p63_2 (((Z n).1.q1).length) p63_c2, .bool ((Z n).1.b2), .slice p63_3 (((Z n).1.t2).length) p63_c3, .slice p63_4 (((Z n).1.q2).length) p63_c4], .int .i64 ((Z n).2)]) rfl rfl) ?_
       intro a hA
       refine seq_do (v := .int .i64 ((Z n).2)) hA rfl rfl rfl (d_extract (vs := [.agg #[.bool ((Z n).1.b1), .slice p63_1 (((Z n).1.t1).length) p63_c1, .slice p63_2 (((Z n).1.q1).length) p63_c2, .bool ((Z n).1.b2), .slice p63_3 (((Z n).1.t2).length) p63_c3, .slice p63_4 (((Z n).1.q2).length) p63_c4], .int .i64 ((Z n).2)]) rfl rfl) ?_
       intro a hA
       refine seq_new (vs := [.bool false, .slice none 0 0, .slice none 0 0, .bool false, .slice none 0 0, .slice none 0 0]) (t := 26) hA hS rfl rfl rfl (fun g => .pointer (some ⟨g, 0, none⟩)) (d_alloc (z := .agg #[.bool false, .slice none 0 0, .slice none 0 0, .bool false, .slice none 0 0, .slice none 0 0]) (by kernel_rfl) rfl) rfl ?_
       intro g67 w68 hS a hA
       refine seq_store (us := [.bool ((Z n).1.b1), .slice p63_1 (((Z n).1.t1).length) p63_c1, .slice p63_2 (((Z n).1.q1).length) p63_c2, .bool ((Z n).1.b2), .slice p63_3 (((Z n).1.t2).length) p63_c3, .slice p63_4 (((Z n).1.q2).length) p63_c4]) hA hS rfl rfl (sets_store rfl rfl rfl (by kernel_rfl) hS 0 rfl rfl rfl) 0 rfl rfl rfl rfl ?_
       intro w69 hS
       refine seq_do hA rfl rfl rfl (d_assign rfl) ?_
       intro a hA
       refine seq_end ?_
       refine hK62 _ _ ?_
       refine wp_seq_k (fun K70 hK70 => ?_)
       refine wp_region_lit ?_
       refine seq_call hA rfl rfl rfl (enters_func  rfl rfl (fun w => by kernel_rfl)) (awake3_any) ?_
       rintro _ w72 ⟨rfl, hb71⟩
       replace hS := hS.call hb71
       refine ⟨_, rfl, ?_⟩
       intro a hA
       refine seq_do hA rfl rfl rfl (d_move rfl) ?_
       intro a hA
       refine seq_do hA rfl rfl rfl (d_loadS hS SmJ_isS_26 rfl 1 rfl (cs := [.bool ((Z n).1.b1), .slice p55_1 (((Z n).1.t1).length) p55_c1, .slice p55_2 (((Z n).1.q1).length) p55_c2, .bool ((Z n).1.b2), .slice p55_3 (((Z n).1.t2).length) p55_c3, .slice p55_4 (((Z n).1.q2).length) p55_c4]) rfl rfl) ?_
       intro a hA
       refine seq_do hA rfl rfl rfl (d_loadS hS SmJ_isS_26 rfl 0 rfl (cs := [.bool ((Z n).1.b1), .slice p63_1 (((Z n).1.t1).length) p63_c1, .slice p63_2 (((Z n).1.q1).length) p63_c2, .bool ((Z n).1.b2), .slice p63_3 (((Z n).1.t2).length) p63_c3, .slice p63_4 (((Z n).1.q2).length) p63_c4]) rfl rfl) ?_
       intro a hA
       refine seq_call hA rfl rfl rfl (enters_func  rfl rfl (fun w => by kernel_rfl)) (alike_any (show Nm _ (Z n).1 p55_1 p55_c1 p55_2 p55_c2 p55_3 p55_c3 p55_4 p55_c4 from ⟨⟨(hS.rd 7 rfl), hn56.s1.nil, hn56.s1.cap⟩, ⟨(hS.rd 6 rfl), hn56.s2.nil, hn56.s2.cap⟩, ⟨(hS.rd 5 rfl), hn56.s3.nil, hn56.s3.cap⟩, ⟨(hS.rd 4 rfl), hn56.s4.nil, hn56.s4.cap⟩⟩) (lZ _) ⟨⟨(hS.rd 3 rfl), hn64.s1.nil, hn64.s1.cap⟩, ⟨(hS.rd 2 rfl), hn64.s2.nil, hn64.s2.cap⟩, ⟨(hS.rd 1 rfl), hn64.s3.nil, hn64.s3.cap⟩, ⟨(hS.rd 0 rfl), hn64.s4.nil, hn64.s4.cap⟩⟩) ?_
       rintro _ w74 ⟨rfl, hb73⟩
       replace hS := hS.call hb73
       refine ⟨_, rfl, ?_⟩
       intro a hA
       refine seq_do (v := .bool true) hA rfl rfl rfl (d_pick rfl rfl rfl rfl) ?_
       intro a hA
       refine seq_do hA rfl rfl rfl (d_move rfl) ?_
       intro a hA
       refine seq_do hA rfl rfl rfl (d_move rfl) ?_
       intro a hA
       refine seq_do hA rfl rfl rfl (d_move rfl) ?_
       intro a hA
       refine seq_do (v := .bool true) hA rfl rfl rfl (d_bin rfl rfl (fun w => (bin_eql w).trans (by rw [show (((Z n).2 == (Z n).2)) = true from (beq_self_eq_true _)]))) ?_
       intro a hA
       refine seq_do (v := .bool true) hA rfl rfl rfl (d_pick rfl rfl rfl rfl) ?_
       intro a hA
       refine seq_do hA rfl rfl rfl (d_assign rfl) ?_
       intro a hA
       refine seq_end ?_
       refine hK70 _ _ ?_
       refine wp_ret ?_
       refine hret _ _ ?_
       refine ends (v := .bool true) hA rfl (.cons (res_tmp rfl) .nil) rfl ?_
       exact ⟨rfl, hS.bel⟩
   · have hb7' := of_decide_eq_false hb7
     refine seq_do (v := .bool false) hA rfl rfl rfl (d_bin rfl rfl (fun w => (bin_geq w).trans (by rw [hb7]))) ?_
     intro a hA
     refine seq_do (v := .bool false) hA rfl rfl rfl (d_pick rfl rfl rfl rfl) ?_
     intro a hA
     refine seq_do hA rfl rfl rfl (d_move rfl) ?_
     intro a hA
     refine seq_skip hA rfl rfl rfl ?_
     intro a hA
     refine seq_skip hA rfl rfl rfl ?_
     intro a hA
     refine seq_do (v := .bool false) hA rfl rfl rfl (d_pick rfl rfl rfl rfl) ?_
     intro a hA
     refine seq_end ?_
     refine hK5 _ _ ?_
     refine wp_cond_false (hA.ev rfl) ?_
     refine wp_skip ?_
     refine hK4 _ _ ?_
     refine wp_seq_k (fun K75 hK75 => ?_)
     refine wp_region_lit ?_
     refine seq_do hA rfl rfl rfl (d_loadS hS SmJ_isS_26 rfl 0 rfl (cs := [.bool p.b1, .slice a1 p.t1.length ac1, .slice a2 p.q1.length ac2, .bool p.b2, .slice a3 p.t2.length ac3, .slice a4 p.q2.length ac4]) rfl rfl) ?_
     intro a hA
     refine seq_do hA rfl rfl rfl (d_move rfl) ?_
     intro a hA
     refine seq_call hA rfl rfl rfl (enters_func  rfl rfl (fun w => by kernel_rfl)) (exptQ_as (show Nm _ p a1 ac1 a2 ac2 a3 ac3 a4 ac4 from ⟨⟨(hS.rd 3 rfl), ha.s1.nil, ha.s1.cap⟩, ⟨(hS.rd 2 rfl), ha.s2.nil, ha.s2.cap⟩, ⟨(hS.rd 1 rfl), ha.s3.nil, ha.s3.cap⟩, ⟨(hS.rd 0 rfl), ha.s4.nil, ha.s4.cap⟩⟩) hl (eZ _)) ?_
     rintro _ w79 ⟨p76_1, p76_c1, p76_2, p76_c2, p76_3, p76_c3, p76_4, p76_c4, rfl, hn77, hb78⟩
     replace hS := hS.call hb78
     replace hS := hS.addR hn77.s1.rd
     replace hS := hS.addR hn77.s2.rd
     replace hS := hS.addR hn77.s3.rd
     replace hS := hS.addR hn77.s4.rd
     refine ⟨_, rfl, ?_⟩
     intro a hA
     refine seq_do hA rfl rfl rfl (d_move rfl) ?_
     intro a hA
     refine seq_do (v := .agg #[.bool ((Z n).1.b1), .slice p76_1 (((Z n).1.t1).length) p76_c1, .slice p76_2 (((Z n).1.q1).length) p76_c2, .bool ((Z n).1.b2), .slice p76_3 (((Z n).1.t2).length) p76_c3, .slice p76_4 (((Z n).1.q2).length) p76_c4]) hA rfl rfl rfl (d_extract (vs := [.agg #[.bool ((Z n).1.b1), .slice p76_1 (((Z n).1.t1).length) p76_c1, .slice p76_2 (((Z n).1.q1).length) p76_c2, .bool ((Z n).1.b2), .slice p76_3 (((Z n).1.t2).length) p76_c3, .slice p76_4 (((Z n).1.q2).length) p76_c4], .int .i64 ((Z n).2)]) rfl rfl) ?_
     intro a hA
     refine seq_do (v := .int .i64 ((Z n).2)) hA rfl rfl rfl (d_extract (vs := [.agg #[.bool ((Z n).1.b1), .slice p76_1 (((Z n).1.t1).length) p76_c1, .slice p76_2 (((Z n).1.q1).length) p76_c2, .bool ((Z n).1.b2), .slice p76_3 (((Z n).1.t2).length) p76_c3, .slice p76_4 (((Z n).1.q2).length) p76_c4], .int .i64 ((Z n).2)]) rfl rfl) ?_
     intro a hA
     refine seq_new (vs := [.bool false, .slice none 0 0, .slice none 0 0, .bool false, .slice none 0 0, .slice none 0 0]) (t := 26) hA hS rfl rfl rfl (fun g => .pointer (some ⟨g, 0, none⟩)) (d_alloc (z := .agg #[.bool false, .slice none 0 0, .slice none 0 0, .bool false, .slice none 0 0, .slice none 0 0]) (by kernel_rfl) rfl) rfl ?_
     intro g80 w81 hS a hA
     refine seq_store (us := [.bool ((Z n).1.b1), .slice p76_1 (((Z n).1.t1).length) p76_c1, .slice p76_2 (((Z n).1.q1).length) p76_c2, .bool ((Z n).1.b2), .slice p76_3 (((Z n).1.t2).length) p76_c3, .slice p76_4 (((Z n).1.q2).length) p76_c4]) hA hS rfl rfl (sets_store rfl rfl rfl (by kernel_rfl) hS 0 rfl rfl rfl) 0 rfl rfl rfl rfl ?_
     intro w82 hS
     refine seq_do hA rfl rfl rfl (d_assign rfl) ?_
     intro a hA
     refine seq_end ?_
     refine hK75 _ _ ?_
     refine wp_seq_k (fun K83 hK83 => ?_)
     refine wp_region_lit ?_
     refine seq_do hA rfl rfl rfl (d_loadS hS SmJ_isS_26 rfl 1 rfl (cs := [.bool p.b1, .slice a1 p.t1.length ac1, .slice a2 p.q1.length ac2, .bool p.b2, .slice a3 p.t2.length ac3, .slice a4 p.q2.length ac4]) rfl rfl) ?_
     intro a hA
     refine seq_do hA rfl rfl rfl (d_move rfl) ?_
     intro a hA
     refine seq_call hA rfl rfl rfl (enters_func  rfl rfl (fun w => by kernel_rfl)) (rexptQ_as (show Nm _ p a1 ac1 a2 ac2 a3 ac3 a4 ac4 from ⟨⟨(hS.rd 7 rfl), ha.s1.nil, ha.s1.cap⟩, ⟨(hS.rd 6 rfl), ha.s2.nil, ha.s2.cap⟩, ⟨(hS.rd 5 rfl), ha.s3.nil, ha.s3.cap⟩, ⟨(hS.rd 4 rfl), ha.s4.nil, ha.s4.cap⟩⟩) hl (eZ _)) ?_
     rintro _ w87 ⟨p84_1, p84_c1, p84_2, p84_c2, p84_3, p84_c3, p84_4, p84_c4, rfl, hn85, hb86⟩
     replace hS := hS.call hb86
     replace hS := hS.addR hn85.s1.rd
     replace hS := hS.addR hn85.s2.rd
     replace hS := hS.addR hn85.s3.rd
     replace hS := hS.addR hn85.s4.rd
     refine ⟨_, rfl, ?_⟩
     intro a hA
     refine seq_do hA rfl rfl rfl (d_move rfl) ?_
     intro a hA
     refine seq_do (v := .agg #[.bool ((Z n).1.b1), .slice p84_1 (((Z n).1.t1).length) p84_c1, .slice p84_2 (((Z n).1.q1).length) p84_c2, .bool ((Z n).1.b2), .slice p84_3 (((Z n).1.t2).length) p84_c3, .slice p84_4 (((Z n).1.q2).length) p84_c4]) hA rfl rfl rfl (d_extract (vs := [.agg #[.bool ((Z n).1.b1), .slice p84_1 (((Z n).1.t1).length) p84_c1, .slice p84_2 (((Z n).1.q1).length) p84_c2, .bool ((Z n).1.b2), .slice p84_3 (((Z n).1.t2).length) p84_c3, .slice p84_4 (((Z n).1.q2).length) p84_c4], .int .i64 ((Z n).2)]) rfl rfl) ?_
     intro a hA
     refine seq_do (v := .int .i64 ((Z n).2)) hA rfl rfl rfl (d_extract (vs := [.agg #[.bool ((Z n).1.b1), .slice p84_1 (((Z n).1.t1).length) p84_c1, .slice p84_2 (((Z n).1.q1).length) p84_c2, .bool ((Z n).1.b2), .slice p84_3 (((Z n).1.t2).length) p84_c3, .slice p84_4 (((Z n).1.q2).length) p84_c4], .int .i64 ((Z n).2)]) rfl rfl) ?_
     intro a hA
     refine seq_new (vs := [.bool false, .slice none 0 0, .slice none 0 0, .bool false, .slice none 0 0, .slice none 0 0]) (t := 26) hA hS rfl rfl rfl (fun g => .pointer (some ⟨g, 0, none⟩)) (d_alloc (z := .agg #[.bool false, .slice none 0 0, .slice none 0 0, .bool false, .slice none 0 0, .slice none 0 0]) (by kernel_rfl) rfl) rfl ?_
     intro g88 w89 hS a hA
     refine seq_store (us := [.bool ((Z n).1.b1), .slice p84_1 (((Z n).1.t1).length) p84_c1, .slice p84_2 (((Z n).1.q1).length) p84_c2, .bool ((Z n).1.b2), .slice p84_3 (((Z n).1.t2).length) p84_c3, .slice p84_4 (((Z n).1.q2).length) p84_c4]) hA hS rfl rfl (sets_store rfl rfl rfl (by kernel_rfl) hS 0 rfl rfl rfl) 0 rfl rfl rfl rfl ?_
     intro w90 hS
     refine seq_do hA rfl rfl rfl (d_assign rfl) ?_
     intro a hA
     refine seq_end ?_
     refine hK83 _ _ ?_
     refine wp_seq_k (fun K91 hK91 => ?_)
     refine wp_region_lit ?_
     refine seq_call hA rfl rfl rfl (enters_func  rfl rfl (fun w => by kernel_rfl)) (awake3_any) ?_
     rintro _ w93 ⟨rfl, hb92⟩
     replace hS := hS.call hb92
     refine ⟨_, rfl, ?_⟩
     intro a hA
     refine seq_do hA rfl rfl rfl (d_move rfl) ?_
     intro a hA
     refine seq_do hA rfl rfl rfl (d_loadS hS SmJ_isS_26 rfl 1 rfl (cs := [.bool ((Z n).1.b1), .slice p76_1 (((Z n).1.t1).length) p76_c1, .slice p76_2 (((Z n).1.q1).length) p76_c2, .bool ((Z n).1.b2), .slice p76_3 (((Z n).1.t2).length) p76_c3, .slice p76_4 (((Z n).1.q2).length) p76_c4]) rfl rfl) ?_
     intro a hA
     refine seq_do hA rfl rfl rfl (d_loadS hS SmJ_isS_26 rfl 0 rfl (cs := [.bool ((Z n).1.b1), .slice p84_1 (((Z n).1.t1).length) p84_c1, .slice p84_2 (((Z n).1.q1).length) p84_c2, .bool ((Z n).1.b2), .slice p84_3 (((Z n).1.t2).length) p84_c3, .slice p84_4 (((Z n).1.q2).length) p84_c4]) rfl rfl) ?_
     intro a hA
     refine seq_call hA rfl rfl rfl (enters_func  rfl rfl (fun w => by kernel_rfl)) (alike_any (show Nm _ (Z n).1 p76_1 p76_c1 p76_2 p76_c2 p76_3 p76_c3 p76_4 p76_c4 from ⟨⟨(hS.rd 7 rfl), hn77.s1.nil, hn77.s1.cap⟩, ⟨(hS.rd 6 rfl), hn77.s2.nil, hn77.s2.cap⟩, ⟨(hS.rd 5 rfl), hn77.s3.nil, hn77.s3.cap⟩, ⟨(hS.rd 4 rfl), hn77.s4.nil, hn77.s4.cap⟩⟩) (lZ _) ⟨⟨(hS.rd 3 rfl), hn85.s1.nil, hn85.s1.cap⟩, ⟨(hS.rd 2 rfl), hn85.s2.nil, hn85.s2.cap⟩, ⟨(hS.rd 1 rfl), hn85.s3.nil, hn85.s3.cap⟩, ⟨(hS.rd 0 rfl), hn85.s4.nil, hn85.s4.cap⟩⟩) ?_
     rintro _ w95 ⟨rfl, hb94⟩
     replace hS := hS.call hb94
     refine ⟨_, rfl, ?_⟩
     intro a hA
     refine seq_do (v := .bool true) hA rfl rfl rfl (d_pick rfl rfl rfl rfl) ?_
     intro a hA
     refine seq_do hA rfl rfl rfl (d_move rfl) ?_
     intro a hA
     refine seq_do hA rfl rfl rfl (d_move rfl) ?_
     intro a hA
     refine seq_do hA rfl rfl rfl (d_move rfl) ?_
     intro a hA
     refine seq_do (v := .bool true) hA rfl rfl rfl (d_bin rfl rfl (fun w => (bin_eql w).trans (by rw [show (((Z n).2 == (Z n).2)) = true from (beq_self_eq_true _)]))) ?_
     intro a hA
     refine seq_do (v := .bool true) hA rfl rfl rfl (d_pick rfl rfl rfl rfl) ?_
     intro a hA
     refine seq_do hA rfl rfl rfl (d_assign rfl) ?_
     intro a hA
     refine seq_end ?_
     refine hK91 _ _ ?_
     refine wp_ret ?_
     refine hret _ _ ?_
     refine ends (v := .bool true) hA rfl (.cons (res_tmp rfl) .nil) rfl ?_
     exact ⟨rfl, hS.bel⟩
 · have hb6' := of_decide_eq_false hb6
   refine seq_do (v := .bool false) hA rfl rfl rfl (d_bin rfl rfl (fun w => (bin_gtr w).trans (by rw [hb6]))) ?_
   intro a hA
   refine seq_do hA rfl rfl rfl (d_move rfl) ?_
   intro a hA
   refine seq_skip hA rfl rfl rfl ?_
   intro a hA
   refine seq_skip hA rfl rfl rfl ?_
   intro a hA
   refine seq_do (v := .bool false) hA rfl rfl rfl (d_pick rfl rfl rfl rfl) ?_
   intro a hA
   refine seq_do hA rfl rfl rfl (d_move rfl) ?_
   intro a hA
   refine seq_skip hA rfl rfl rfl ?_
   intro a hA
   refine seq_skip hA rfl rfl rfl ?_
   intro a hA
   refine seq_do (v := .bool false) hA rfl rfl rfl (d_pick rfl rfl rfl rfl) ?_
   intro a hA
   refine seq_end ?_
   refine hK5 _ _ ?_
   refine wp_cond_false (hA.ev rfl) ?_
   refine wp_skip ?_
   refine hK4 _ _ ?_
   refine wp_seq_k (fun K96 hK96 => ?_)
   refine wp_region_lit ?_
   refine seq_do hA rfl rfl rfl (d_loadS hS SmJ_isS_26 rfl 0 rfl (cs := [.bool p.b1, .slice a1 p.t1.length ac1, .slice a2 p.q1.length ac2, .bool p.b2, .slice a3 p.t2.length ac3, .slice a4 p.q2.length ac4]) rfl rfl) ?_
   intro a hA
   refine seq_do hA rfl rfl rfl (d_move rfl) ?_
   intro a hA
   refine seq_call hA rfl rfl rfl (enters_func  rfl rfl (fun w => by kernel_rfl)) (exptQ_as (show Nm _ p a1 ac1 a2 ac2 a3 ac3 a4 ac4 from ⟨⟨(hS.rd 3 rfl), ha.s1.nil, ha.s1.cap⟩, ⟨(hS.rd 2 rfl), ha.s2.nil, ha.s2.cap⟩, ⟨(hS.rd 1 rfl), ha.s3.nil, ha.s3.cap⟩, ⟨(hS.rd 0 rfl), ha.s4.nil, ha.s4.cap⟩⟩) hl (eZ _)) ?_
   rintro _ w100 ⟨p97_1, p97_c1, p97_2, p97_c2, p97_3, p97_c3, p97_4, p97_c4, rfl, hn98, hb99⟩
   replace hS := hS.call hb99
   replace hS := hS.addR hn98.s1.rd
   replace hS := hS.addR hn98.s2.rd
   replace hS := hS.addR hn98.s3.rd
   replace hS := hS.addR hn98.s4.rd
   refine ⟨_, rfl, ?_⟩
   intro a hA
   refine seq_do hA rfl rfl rfl (d_move rfl) ?_
   intro a hA
   refine seq_do (v := .agg #[.bool ((Z n).1.b1), .slice p97_1 (((Z n).1.t1).length) p97_c1, .slice p97_2 (((Z n).1.q1).length) p97_c2, .bool ((Z n).1.b2), .slice p97_3 (((Z n).1.t2).length) p97_c3, .slice p97_4 (((Z n).1.q2).length) p97_c4]) hA rfl rfl rfl (d_extract (vs := [.agg #[.bool ((Z n).1.b1), .slice p97_1 (((Z n).1.t1).length) p97_c1, .slice p97_2 (((Z n).1.q1).length) p97_c2, .bool ((Z n).1.b2), .slice p97_3 (((Z n).1.t2).length) p97_c3, .slice p97_4 (((Z n).1.q2).length) p97_c4], .int .i64 ((Z n).2)]) rfl rfl) ?_
   intro a hA
   refine seq_do (v := .int .i64 ((Z n).2)) hA rfl rfl rfl (d_extract (vs := [.agg #[.bool ((Z n).1.b1), .slice p97_1 (((Z n).1.t1).length) p97_c1, .slice p97_2 (((Z n).1.q1).length) p97_c2, .bool ((Z n).1.b2), .slice p97_3 (((Z n).1.t2).length) p97_c3, .slice p97_4 (((Z n).1.q2).length) p97_c4], .int .i64 ((Z n).2)]) rfl rfl) ?_
   intro a hA
   refine seq_new (vs := [.bool false, .slice none 0 0, .slice none 0 0, .bool false, .slice none 0 0, .slice none 0 0]) (t := 26) hA hS rfl rfl rfl (fun g => .pointer (some ⟨g, 0, none⟩)) (d_alloc (z := .agg #[.bool false, .slice none 0 0, .slice none 0 0, .bool false, .slice none 0 0, .slice none 0 0]) (by kernel_rfl) rfl) rfl ?_
   intro g101 w102 hS a hA
   refine seq_store (us := [.bool ((Z n).1.b1), .slice p97_1 (((Z n).1.t1).length) p97_c1, .slice p97_2 (((Z n).1.q1).length) p97_c2, .bool ((Z n).1.b2), .slice p97_3 (((Z n).1.t2).length) p97_c3, .slice p97_4 (((Z n).1.q2).length) p97_c4]) hA hS rfl rfl (sets_store rfl rfl rfl (by kernel_rfl) hS 0 rfl rfl rfl) 0 rfl rfl rfl rfl ?_
   intro w103 hS
   refine seq_do hA rfl rfl rfl (d_assign rfl) ?_
   intro a hA
   refine seq_end ?_
   refine hK96 _ _ ?_
   refine wp_seq_k (fun K104 hK104 => ?_)
   refine wp_region_lit ?_
   refine seq_do hA rfl rfl rfl (d_loadS hS SmJ_isS_26 rfl 1 rfl (cs := [.bool p.b1, .slice a1 p.t1.length ac1, .slice a2 p.q1.length ac2, .bool p.b2, .slice a3 p.t2.length ac3, .slice a4 p.q2.length ac4]) rfl rfl) ?_
   intro a hA
   refine seq_do hA rfl rfl rfl (d_move rfl) ?_
   intro a hA
   refine seq_call hA rfl rfl rfl (enters_func  rfl rfl (fun w => by kernel_rfl)) (rexptQ_as (show Nm _ p a1 ac1 a2 ac2 a3 ac3 a4 ac4 from ⟨⟨(hS.rd 7 rfl), ha.s1.nil, ha.s1.cap⟩, ⟨(hS.rd 6 rfl), ha.s2.nil, ha.s2.cap⟩, ⟨(hS.rd 5 rfl), ha.s3.nil, ha.s3.cap⟩, ⟨(hS.rd 4 rfl), ha.s4.nil, ha.s4.cap⟩⟩) hl (eZ _)) ?_
   rintro _ w108 ⟨p105_1, p105_c1, p105_2, p105_c2, p105_3, p105_c3, p105_4, p105_c4, rfl, hn106, hb107⟩
   replace hS := hS.call hb107
   replace hS := hS.addR hn106.s1.rd
   replace hS := hS.addR hn106.s2.rd
   replace hS := hS.addR hn106.s3.rd
   replace hS := hS.addR hn106.s4.rd
   refine ⟨_, rfl, ?_⟩
   intro a hA
   refine seq_do hA rfl rfl rfl (d_move rfl) ?_
   intro a hA
   refine seq_do (v := .agg #[.bool ((Z n).1.b1), .slice p105_1 (((Z n).1.t1).length) p105_c1, .slice p105_2 (((Z n).1.q1).length) p105_c2, .bool ((Z n).1.b2), .slice p105_3 (((Z n).1.t2).length) p105_c3, .slice p105_4 (((Z n).1.q2).length) p105_c4]) hA rfl rfl rfl (d_extract (vs := [.agg #[.bool ((Z n).1.b1), .slice p105_1 (((Z n).1.t1).length) p105_c1, .slice p105_2 (((Z n).1.q1).length) p105_c2, .bool ((Z n).1.b2), .slice p105_3 (((Z n).1.t2).length) p105_c3, .slice p105_4 (((Z n).1.q2).length) p105_c4], .int .i64 ((Z n).2)]) rfl rfl) ?_
   intro a hA
   refine seq_do (v := .int .i64 ((Z n).2)) hA rfl rfl rfl (d_extract (vs := [.agg #[.bool ((Z n).1.b1), .slice p105_1 (((Z n).1.t1).length) p105_c1, .slice p105_2 (((Z n).1.q1).length) p105_c2, .bool ((Z n).1.b2), .slice p105_3 (((Z n).1.t2).length) p105_c3, .slice p105_4 (((Z n).1.q2).length) p105_c4], .int .i64 ((Z n).2)]) rfl rfl) ?_
   intro a hA
   refine seq_new (vs := [.bool false, .slice none 0 0, .slice none 0 0, .bool false, .slice none 0 0, .slice none 0 0]) (t := 26) hA hS rfl rfl rfl (fun g => .pointer (some ⟨g, 0, none⟩)) (d_alloc (z := .agg #[.bool false, .slice none 0 0, .slice none 0 0, .bool false, .slice none 0 0, .slice none 0 0]) (by kernel_rfl) rfl) rfl ?_
   intro g109 w110 hS a hA
   refine seq_store (us := [.bool ((Z n).1.b1), .slice p105_1 (((Z n).1.t1).length) p105_c1, .slice p105_2 (((Z n).1.q1).length) p105_c2, .bool ((Z n).1.b2), .slice p105_3 (((Z n).1.t2).length) p105_c3, .slice p105_4 (((Z n).1.q2).length) p105_c4]) hA hS rfl rfl (sets_store rfl rfl rfl (by kernel_rfl) hS 0 rfl rfl rfl) 0 rfl rfl rfl rfl ?_
   intro w111 hS
   refine seq_do hA rfl rfl rfl (d_assign rfl) ?_
   intro a hA
   refine seq_end ?_
   refine hK104 _ _ ?_
   refine wp_seq_k (fun K112 hK112 => ?_)
   refine wp_region_lit ?_
   refine seq_call hA rfl rfl rfl (enters_func  rfl rfl (fun w => by kernel_rfl)) (awake3_any) ?_
   rintro _ w114 ⟨rfl, hb113⟩
   replace hS := hS.call hb113
   refine ⟨_, rfl, ?_⟩
   intro a hA
   refine seq_do hA rfl rfl rfl (d_move rfl) ?_
   intro a hA
   refine seq_do hA rfl rfl rfl (d_loadS hS SmJ_isS_26 rfl 1 rfl (cs := [.bool ((Z n).1.b1), .slice p97_1 (((Z n).1.t1).length) p97_c1, .slice p97_2 (((Z n).1.q1).length) p97_c2, .bool ((Z n).1.b2), .slice p97_3 (((Z n).1.t2).length) p97_c3, .slice p97_4 (((Z n).1.q2).length) p97_c4]) rfl rfl) ?_
   intro a hA
   refine seq_do hA rfl rfl rfl (d_loadS hS SmJ_isS_26 rfl 0 rfl (cs := [.bool ((Z n).1.b1), .slice p105_1 (((Z n).1.t1).length) p105_c1, .slice p105_2 (((Z n).1.q1).length) p105_c2, .bool ((Z n).1.b2), .slice p105_3 (((Z n).1.t2).length) p105_c3, .slice p105_4 (((Z n).1.q2).length) p105_c4]) rfl rfl) ?_
   intro a hA
   refine seq_call hA rfl rfl rfl (enters_func  rfl rfl (fun w => by kernel_rfl)) (alike_any (show Nm _ (Z n).1 p97_1 p97_c1 p97_2 p97_c2 p97_3 p97_c3 p97_4 p97_c4 from ⟨⟨(hS.rd 7 rfl), hn98.s1.nil, hn98.s1.cap⟩, ⟨(hS.rd 6 rfl), hn98.s2.nil, hn98.s2.cap⟩, ⟨(hS.rd 5 rfl), hn98.s3.nil, hn98.s3.cap⟩, ⟨(hS.rd 4 rfl), hn98.s4.nil, hn98.s4.cap⟩⟩) (lZ _) ⟨⟨(hS.rd 3 rfl), hn106.s1.nil, hn106.s1.cap⟩, ⟨(hS.rd 2 rfl), hn106.s2.nil, hn106.s2.cap⟩, ⟨(hS.rd 1 rfl), hn106.s3.nil, hn106.s3.cap⟩, ⟨(hS.rd 0 rfl), hn106.s4.nil, hn106.s4.cap⟩⟩) ?_
   rintro _ w116 ⟨rfl, hb115⟩
   replace hS := hS.call hb115
   refine ⟨_, rfl, ?_⟩
   intro a hA
   refine seq_do (v := .bool true) hA rfl rfl rfl (d_pick rfl rfl rfl rfl) ?_
   intro a hA
   refine seq_do hA rfl rfl rfl (d_move rfl) ?_
   intro a hA
   refine seq_do hA rfl rfl rfl (d_move rfl) ?_
   intro a hA
   refine seq_do hA rfl rfl rfl (d_move rfl) ?_
   intro a hA
   refine seq_do (v := .bool true) hA rfl rfl rfl (d_bin rfl rfl (fun w => (bin_eql w).trans (by rw [show (((Z n).2 == (Z n).2)) = true from (beq_self_eq_true _)]))) ?_
   intro a hA
   refine seq_do (v := .bool true) hA rfl rfl rfl (d_pick rfl rfl rfl rfl) ?_
   intro a hA
   refine seq_do hA rfl rfl rfl (d_assign rfl) ?_
   intro a hA
   refine seq_end ?_
   refine hK112 _ _ ?_
   refine wp_ret ?_
   refine hret _ _ ?_
   refine ends (v := .bool true) hA rfl (.cons (res_tmp rfl) .nil) rfl ?_
   exact ⟨rfl, hS.bel⟩
theorem exactPowers_any {w : World} {p : Q6} {a1 a2 a3 a4 : Option Addr} {ac1 ac2 ac3 ac4 : Nat} (ha : Nm w p a1 ac1 a2 ac2 a3 ac3 a4 ac4) (hl : LenQ p) {n : Int} (h0 : -9223372036854775808 ≤ n) (h1 : n ≤ 9223372036854775807) : Calls Tryz.prog 5 #[numV p a1 ac1 a2 ac2 a3 ac3 a4 ac4, .int .i64 n] w fun e w' => e = .returned (.bool true) ∧ Below w.heap.size w w' := powersW_any ha hl (fun _ => rfl) (lenQ_expt _)
end Go.Proofs.YthlkbnhbmfmchaaGreat
namespace Go.Proofs.YthlkbnhbmfmchaaGreat
open Go.ChangeShapes Go.WideShapes Go.ChangeAt Go.RowKit Go.Joins Go.Deep
set_option linter.unusedVariables false
set_option linter.unusedSimpArgs false
set_option maxRecDepth 100000

section
variable {H : Type} {enc : TypeId × Value → H} {W : World}
theorem trod_bool {fuel : Nat} {v : Value} {x : DataW H × List MemPlace} (h : DataW.trod enc Tryz.prog W 0 (fun _ => true) true fuel 4 [v] = some x) : ∃ b, v = .bool b := by
  obtain ⟨b, h, _⟩ := DataW.trod_bool Tryz.underlying4 h
  exact ⟨b, by simpa using h⟩
theorem trod_words {fuel : Nat} {v : Value} {x : DataW H × List MemPlace} (h : DataW.trod enc Tryz.prog W 0 (fun _ => true) true fuel 22 [v] = some x) : ∃ ao c l, v = .slice ao l.length c ∧ Arg W ao c l := by
  rcases open_ints Tryz.underlying22 Tryz.underlying66 (by kernel_rfl) h with ⟨hcs, _⟩ | ⟨x, l, c, zs, hcs, _, hl, hm, hz, hx, hcell, hwz⟩
  · cases hcs
    exact ⟨none, 0, [], rfl, arg_nil W⟩
  · cases hcs
    obtain ⟨us, e, ha⟩ := arg_row hl hm (by simpa using hz) hcell hwz
    subst e
    exact ⟨_, _, us, rfl, ha⟩
theorem trod_rat {fuel : Nat} {v0 v1 v2 : Value} {x : DataW H × List MemPlace} (h : DataW.trod enc Tryz.prog W 0 (fun _ => true) true fuel 24 [v0, v1, v2] = some x) : ∃ b o1 c1 l1 o2 c2 l2, v0 = .bool b ∧ v1 = .slice o1 l1.length c1 ∧ v2 = .slice o2 l2.length c2 ∧ Arg W o1 c1 l1 ∧ Arg W o2 c2 l2 := by
  obtain ⟨y0, y1, y2, n, _, _, h0, h1, h2⟩ := trod_struct3 Tryz.underlying24 h
  have e0 : Tryz.prog.cellsOf 4 = 1 := by kernel_rfl
  have e1 : Tryz.prog.cellsOf 22 = 1 := by kernel_rfl
  simp only [e0, e1, List.drop_zero, List.take_succ_cons, List.take_zero, List.drop_succ_cons] at h0 h1 h2
  obtain ⟨b, rfl⟩ := trod_bool h0
  obtain ⟨o1, c1, l1, rfl, a1⟩ := trod_words h1
  obtain ⟨o2, c2, l2, rfl, a2⟩ := trod_words h2
  exact ⟨b, o1, c1, l1, o2, c2, l2, rfl, rfl, rfl, a1, a2⟩
theorem open_num {base : Nat} {v : Value} {d : DataW H} {p : List MemPlace} (hv : Value.okWide Tryz.prog W .any base 26 v) (h : DataW.Trod enc Tryz.prog W 0 (fun _ => true) true 26 v d p) :
    ∃ q o1 c1 o2 c2 o3 c3 o4 c4, v = numV q o1 c1 o2 c2 o3 c3 o4 c4 ∧ Nm W q o1 c1 o2 c2 o3 c3 o4 c4 ∧ LenQ q := by
  obtain ⟨cs, rfl, hsz⟩ := okWide_struct Tryz.underlying26 hv
  rw [show Tryz.prog.cellsOf 26 = 6 from by kernel_rfl] at hsz
  obtain ⟨cs⟩ := cs
  match cs, hsz with
  | [v0, v1, v2, v3, v4, v5], _ =>
    obtain ⟨fuel, hf⟩ := h
    obtain ⟨y0, y1, n, _, _, h0, h1⟩ := trod_struct2 Tryz.underlying26 hf
    have e : Tryz.prog.cellsOf 24 = 3 := by kernel_rfl
    simp only [Value.cells, e, List.drop_zero, List.take_succ_cons, List.take_zero, List.drop_succ_cons] at h0 h1
    obtain ⟨b1, o1, c1, l1, o2, c2, l2, rfl, rfl, rfl, a1, a2⟩ := trod_rat h0
    obtain ⟨b2, o3, c3, l3, o4, c4, l4, rfl, rfl, rfl, a3, a4⟩ := trod_rat h1
    exact ⟨⟨b1, l1, l2, b2, l3, l4⟩, o1, c1, o2, c2, o3, c3, o4, c4, rfl, ⟨⟨a1.rd, a1.nil, a1.caps⟩, ⟨a2.rd, a2.nil, a2.caps⟩, ⟨a3.rd, a3.nil, a3.caps⟩, ⟨a4.rd, a4.nil, a4.caps⟩⟩, ⟨a1.len, a2.len, a3.len, a4.len⟩⟩
end
end Go.Proofs.YthlkbnhbmfmchaaGreat
