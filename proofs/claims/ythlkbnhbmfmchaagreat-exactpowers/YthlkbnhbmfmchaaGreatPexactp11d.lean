/- Walks of the document's Expt. -/
import Derived.Test.YthlkbnhbmfmchaaGreatPexactp11b
import Derived.Test.YthlkbnhbmfmchaaGreatPexactp11c
namespace Go.Proofs.YthlkbnhbmfmchaaGreat
open Go.RowKit
set_option linter.unusedVariables false
set_option linter.unusedSimpArgs false
set_option maxRecDepth 100000
theorem SmG_is1_22 : Is1 Tryz.prog 22 := ⟨⟨_, Tryz.underlying22, rfl⟩, by kernel_rfl⟩
theorem SmG_is1_4 : Is1 Tryz.prog 4 := ⟨⟨_, Tryz.underlying4, rfl⟩, by kernel_rfl⟩
theorem SmG_fld_24_0 : FieldAt Tryz.prog 24 0 0 := ⟨_, _, Tryz.underlying24, rfl, rfl, by kernel_rfl⟩
theorem SmG_fld_24_1 : FieldAt Tryz.prog 24 1 1 := ⟨_, _, Tryz.underlying24, rfl, rfl, by kernel_rfl⟩
theorem SmG_fld_24_2 : FieldAt Tryz.prog 24 2 2 := ⟨_, _, Tryz.underlying24, rfl, rfl, by kernel_rfl⟩
theorem SmG_fld_26_0 : FieldAt Tryz.prog 26 0 0 := ⟨_, _, Tryz.underlying26, rfl, rfl, by kernel_rfl⟩
theorem SmG_isS_26 : IsS Tryz.prog 26 6 := ⟨⟨_, Tryz.underlying26⟩, by kernel_rfl⟩
theorem rpow_num {u P : Rat} {i : Nat} (h : P = u ^ i) : (P * u).num = P.num * u.num ∧ (P * u).den = P.den * u.den := by
  subst h
  rw [← Rat.pow_succ, Rat.num_pow, Rat.den_pow, Rat.num_pow, Rat.den_pow, Int.pow_succ, Nat.pow_succ]
  exact ⟨rfl, rfl⟩
theorem rtimes_as {w : World} {ao bo : Option Addr} {x y z : Nat} (hz : x * y = z) (ca cb : Nat) (ha : Rd w ao (words x)) (hb : Rd w bo (words y)) (hx : (words x).length ≤ 5000) (hy : (words y).length ≤ 5000) : Calls Tryz.prog 73 #[.slice ao (words x).length ca, .slice bo (words y).length cb] w (Row1 w (words z)) := hz ▸ rtimes_any ca cb ha hb (by omega) (by omega)
theorem real_one : Q6.real 1 = Q6.whole false 1 := by
  unfold Q6.real Q6.whole
  rw [show (1 : Rat).den = 1 from rfl, show (1 : Rat).num.natAbs = 1 from rfl, words_one]
  rfl
theorem rint1_any {w : World} : Calls Tryz.prog 25 #[.int .i64 1] w (AnsV w (Q6.real 1)) := by
  rw [real_one]
  exact rintP_any (k := 1) (by decide)
theorem rint1c_any {w : World} : Calls Tryz.prog 25 #[.int .i64 1] w (AnsV w (Q6.rat 1 0)) := by
  rw [rat0_eq]
  exact rint1_any
theorem len_one : LenR 512 1 := by
  unfold LenR
  rw [show (1 : Rat).den = 1 from rfl, show (1 : Rat).num.natAbs = 1 from rfl, words_one]
  decide
theorem len_zero : LenR 512 0 := fit_lenR fit_zero
theorem rinv0_any {w : World} {u : Rat} {a1 a2 a3 a4 : Option Addr} {ac1 ac2 ac3 ac4 : Nat} (ha : Nm w (Q6.real u) a1 ac1 a2 ac2 a3 ac3 a4 ac4) (LR_u : LenR 512 u) (hz : u ≠ 0) {i1 i2 : Rat} (j1 : u / (u * u + 0 * 0) = i1) (j2 : -0 / (u * u + 0 * 0) = i2) : Calls Tryz.prog 75 #[numV (Q6.real u) a1 ac1 a2 ac2 a3 ac3 a4 ac4] w (AnsV w (Q6.rat i1 i2)) := by
  rw [← rat0_eq] at *
  have h := rinvQ_any ha LR_u len_zero (fun c => hz c.1)
  rw [show u * (1 / (u * u + 0 * 0)) = i1 from by rw [← j1]; grind, show -0 * (1 / (u * u + 0 * 0)) = i2 from by rw [← j2]; grind] at h
  exact h
theorem rinvc_any {w : World} {u v : Rat} {a1 a2 a3 a4 : Option Addr} {ac1 ac2 ac3 ac4 : Nat} (ha : Nm w (Q6.rat u v) a1 ac1 a2 ac2 a3 ac3 a4 ac4) (LR_u : LenR 512 u) (LR_v : LenR 512 v) (hz : ¬ (u = 0 ∧ v = 0)) {i1 i2 : Rat} (j1 : u / (u * u + v * v) = i1) (j2 : -v / (u * u + v * v) = i2) : Calls Tryz.prog 75 #[numV (Q6.rat u v) a1 ac1 a2 ac2 a3 ac3 a4 ac4] w (AnsV w (Q6.rat i1 i2)) := by
  have h := rinvQ_any ha LR_u LR_v hz
  rw [show u * (1 / (u * u + v * v)) = i1 from by rw [← j1]; grind, show -v * (1 / (u * u + v * v)) = i2 from by rw [← j2]; grind] at h
  exact h
theorem lenR_inv9 {n : Rat} {k : Nat} (h : 0 < n) (hn : LenR k n) : LenR k (1 / n) := by
  obtain ⟨i1, i2, _⟩ := inv_parts h
  exact ⟨by rw [i1]; exact hn.2, by rw [i2]; exact hn.1⟩
theorem lenR_iv {u v : Rat} (hu : LenR 512 u) (hv : LenR 512 v) (hz : ¬ (u = 0 ∧ v = 0)) : LenR 9000 (u / (u * u + v * v)) ∧ LenR 9000 (-v / (u * u + v * v)) := by
  have hp := sq_gt hz
  have ln := lenR_inv9 hp (lenR_add (lenR_mul hu hu) (lenR_mul hv hv))
  rw [show u / (u * u + v * v) = u * (1 / (u * u + v * v)) from by grind, show -v / (u * u + v * v) = -v * (1 / (u * u + v * v)) from by grind]
  exact ⟨(lenR_mul hu ln).mono (by decide), (lenR_mul (lenR_neg hv) ln).mono (by decide)⟩
theorem rb_nn {x y : Int} (h : rb x = false) (k : rb y = false) : rb (x * y) = false := by
  have h1 := of_decide_eq_false h
  have k1 := of_decide_eq_false k
  exact decide_eq_false (by have := Int.mul_nonneg (show 0 ≤ x by omega) (show 0 ≤ y by omega); omega)
theorem pow_zero9 {u v P : Rat} {i : Nat} (h : P = u ^ i) (hv : v = 0) (hP : P = 0) : u = 0 ∧ v = 0 := by
  refine ⟨?_, hv⟩
  rw [h] at hP
  by_cases k : u.num = 0
  · exact Rat.num_eq_zero.1 k
  · have h1 : (u ^ i).num ≠ 0 := by rw [Rat.num_pow]; exact Int.pow_ne_zero k
    rw [hP] at h1
    exact absurd rfl h1
theorem iv_fst {u v P i1 i2 : Rat} {i N : Nat} (hi : i = N) (h : pwR u v i = (P, 0)) (j : ivR (pwR u v N) = (i1, i2)) : P / (P * P + 0 * 0) = i1 := by
  subst hi
  rw [h] at j
  exact congrArg Prod.fst j
theorem iv_snd {u v P i1 i2 : Rat} {i N : Nat} (hi : i = N) (h : pwR u v i = (P, 0)) (j : ivR (pwR u v N) = (i1, i2)) : -0 / (P * P + 0 * 0) = i2 := by
  subst hi
  rw [h] at j
  exact congrArg Prod.snd j
theorem iv_fstc {u v A B i1 i2 : Rat} {i N : Nat} (hi : i = N) (h : pwR u v i = (A, B)) (j : ivR (pwR u v N) = (i1, i2)) : A / (A * A + B * B) = i1 := by
  subst hi
  rw [h] at j
  exact congrArg Prod.fst j
theorem iv_sndc {u v A B i1 i2 : Rat} {i N : Nat} (hi : i = N) (h : pwR u v i = (A, B)) (j : ivR (pwR u v N) = (i1, i2)) : -B / (A * A + B * B) = i2 := by
  subst hi
  rw [h] at j
  exact congrArg Prod.snd j
set_option maxHeartbeats 2000000 in
theorem rexRfP_any {w : World} {u v : Rat} {a1 a2 a3 a4 : Option Addr} {ac1 ac2 ac3 ac4 : Nat} (ha : Nm w (Q6.rat u v) a1 ac1 a2 ac2 a3 ac3 a4 ac4) (hu : fitR u) (hv : fitR v) {N : Nat} (h1 : 1 ≤ N) (h2 : N ≤ 1024) (k2 : decide ((Q6.rat u v).t2.length = 0) = true) (hv0 : v = 0) (hsu : rb u.num = false) (LU : LenR 512 u) : Calls Tryz.prog 31 #[numV (Q6.rat u v) a1 ac1 a2 ac2 a3 ac3 a4 ac4, .int .i64 (((N : Nat) : Int))] w (AnsN w (exptQ (Q6.rat u v) (((N : Nat) : Int)))) := by
 have hS : St w w [] [(a4, words v.den), (a3, words v.num.natAbs), (a2, words u.den), (a1, words u.num.natAbs)] [] := ((((St.start w).addR ha.s1.rd).addR ha.s2.rd).addR ha.s3.rd).addR ha.s4.rd
 refine walk_of (l := [(0, .agg #[.bool (rb u.num), .slice a1 ((words u.num.natAbs).length) ac1, .slice a2 ((words u.den).length) ac2, .bool (rb v.num), .slice a3 ((words v.num.natAbs).length) ac3, .slice a4 ((words v.den).length) ac4]), (1, .int .i64 (((N : Nat) : Int)))]) Tryz.func31 rfl Tryz.ntmps31 rfl rfl ?_
 intro Q hret hnorm hP a hA
 refine wp_seq_k (fun K1 hK1 => ?_)
 refine wp_region_lit ?_
 refine seq_new hA hS rfl rfl rfl (fun g => .pointer (some ⟨g, 0, none⟩)) (d_box rfl rfl) rfl ?_
 intro g2 w3 hS a hA
 refine seq_new (vs := [.bool false, .slice none 0 0, .slice none 0 0, .bool false, .slice none 0 0, .slice none 0 0]) (t := 26) hA hS rfl rfl rfl (fun g => .pointer (some ⟨g, 0, none⟩)) (d_alloc (z := .agg #[.bool false, .slice none 0 0, .slice none 0 0, .bool false, .slice none 0 0, .slice none 0 0]) (by kernel_rfl) rfl) rfl ?_
 intro g4 w5 hS a hA
 refine seq_do hA rfl rfl rfl (d_assign rfl) ?_
 intro a hA
 refine seq_end ?_
 refine hK1 _ _ ?_
 refine wp_seq_k (fun K6 hK6 => ?_)
 refine wp_seq_k (fun K7 hK7 => ?_)
 refine wp_region_lit ?_
 refine seq_do hA rfl rfl rfl (d_loadS hS SmG_isS_26 rfl 1 rfl (cs := [.bool (rb u.num), .slice a1 ((words u.num.natAbs).length) ac1, .slice a2 ((words u.den).length) ac2, .bool (rb v.num), .slice a3 ((words v.num.natAbs).length) ac3, .slice a4 ((words v.den).length) ac4]) rfl rfl) ?_
 intro a hA
 refine seq_call hA rfl rfl rfl (enters_func  rfl rfl (fun w => by kernel_rfl)) (rsoundQ_any (show Nm _ (Q6.rat u v) a1 ac1 a2 ac2 a3 ac3 a4 ac4 from ⟨⟨(hS.rd 3 rfl), ha.s1.nil, ha.s1.cap⟩, ⟨(hS.rd 2 rfl), ha.s2.nil, ha.s2.cap⟩, ⟨(hS.rd 1 rfl), ha.s3.nil, ha.s3.cap⟩, ⟨(hS.rd 0 rfl), ha.s4.nil, ha.s4.cap⟩⟩) (lenQ_rat hu hv) (soundQ_rat hu hv)) ?_
 rintro _ w9 ⟨rfl, hb8⟩
 replace hS := hS.call hb8
 refine ⟨_, rfl, ?_⟩
 intro a hA
 refine seq_do (v := .bool false) hA rfl rfl rfl (d_un rfl un_not) ?_
 intro a hA
 refine seq_end ?_
 refine hK7 _ _ ?_
 refine wp_cond_false (hA.ev rfl) ?_
 refine wp_skip ?_
 refine hK6 _ _ ?_
 refine wp_seq_k (fun K10 hK10 => ?_)
 refine wp_seq_k (fun K11 hK11 => ?_)
 refine wp_region_lit ?_
 refine seq_do hA rfl rfl rfl (d_move rfl) ?_
 intro a hA
 refine seq_do (v := .bool false) hA rfl rfl rfl (d_bin rfl rfl (fun w => (bin_lss w).trans (by rw [show (decide (((N : Nat) : Int) < -1024)) = false from (decide_eq_false (by omega))]))) ?_
 intro a hA
 refine seq_do hA rfl rfl rfl (d_move rfl) ?_
 intro a hA
 refine seq_do hA rfl rfl rfl (d_move rfl) ?_
 intro a hA
 refine seq_do (v := .bool false) hA rfl rfl rfl (d_bin rfl rfl (fun w => (bin_gtr w).trans (by rw [show (decide (1024 < ((N : Nat) : Int))) = false from (decide_eq_false (by omega))]))) ?_
 intro a hA
 refine seq_do (v := .bool false) hA rfl rfl rfl (d_pick rfl rfl rfl rfl) ?_
 intro a hA
 refine seq_end ?_
 refine hK11 _ _ ?_
 refine wp_cond_false (hA.ev rfl) ?_
 refine wp_skip ?_
 refine hK10 _ _ ?_
 refine wp_seq_k (fun K12 hK12 => ?_)
 refine wp_seq_k (fun K13 hK13 => ?_)
 refine wp_region_lit ?_
 refine seq_do hA rfl rfl rfl (d_move rfl) ?_
 intro a hA
 refine seq_do (v := .bool false) hA rfl rfl rfl (d_bin rfl rfl (fun w => (bin_eql w).trans (by rw [show ((((N : Nat) : Int) == 0)) = false from (beq_eq_false_iff_ne.2 (by omega))]))) ?_
 intro a hA
 refine seq_end ?_
 refine hK13 _ _ ?_
 refine wp_cond_false (hA.ev rfl) ?_
 refine wp_skip ?_
 refine hK12 _ _ ?_
 refine wp_seq_k (fun K14 hK14 => ?_)
 refine wp_seq_k (fun K15 hK15 => ?_)
 have hJ21 : ∀ a w1, (Sl a 87 [(0, .agg #[.bool (rb u.num), .slice a1 ((words u.num.natAbs).length) ac1, .slice a2 ((words u.den).length) ac2, .bool (rb v.num), .slice a3 ((words v.num.natAbs).length) ac3, .slice a4 ((words v.den).length) ac4]), (1, .int .i64 (((N : Nat) : Int))), (2, .pointer (some ⟨g2, 0, none⟩)), (4, .pointer (some ⟨g4, 0, none⟩)), (5, .int .i64 0), (9, .agg #[.bool (rb u.num), .slice a1 ((words u.num.natAbs).length) ac1, .slice a2 ((words u.den).length) ac2, .bool (rb v.num), .slice a3 ((words v.num.natAbs).length) ac3, .slice a4 ((words v.den).length) ac4]), (10, .bool true), (11, .bool false), (13, .int .i64 (((N : Nat) : Int))), (14, .bool false), (15, .bool false), (16, .int .i64 (((N : Nat) : Int))), (17, .bool false), (18, .bool false), (20, .int .i64 (((N : Nat) : Int))), (21, .bool false), (28, .bool false)] ∧ St w w1 [(g4, [.bool false, .slice none 0 0, .slice none 0 0, .bool false, .slice none 0 0, .slice none 0 0]), (g2, [.bool (rb u.num), .slice a1 ((words u.num.natAbs).length) ac1, .slice a2 ((words u.den).length) ac2, .bool (rb v.num), .slice a3 ((words v.num.natAbs).length) ac3, .slice a4 ((words v.den).length) ac4])] [(a4, words v.den), (a3, words v.num.natAbs), (a2, words u.den), (a1, words u.num.natAbs)] []) → K15 a w1 := by
   clear hA hS
   rintro a w22 ⟨hA, hS⟩
   refine hK15 _ _ ?_
   refine wp_cond_false (hA.ev rfl) ?_
   refine wp_skip ?_
   refine hK14 _ _ ?_
   refine wp_seq_k (fun K23 hK23 => ?_)
   refine wp_region_lit ?_
   refine seq_do hA rfl rfl rfl (d_move rfl) ?_
   intro a hA
   refine seq_do hA rfl rfl rfl (d_assign rfl) ?_
   intro a hA
   refine seq_end ?_
   refine hK23 _ _ ?_
   refine wp_seq_k (fun K24 hK24 => ?_)
   refine wp_seq_k (fun K25 hK25 => ?_)
   refine wp_region_lit ?_
   refine seq_do hA rfl rfl rfl (d_move rfl) ?_
   intro a hA
   refine seq_do (v := .bool false) hA rfl rfl rfl (d_bin rfl rfl (fun w => (bin_lss w).trans (by rw [show (decide (((N : Nat) : Int) < 0)) = false from (decide_eq_false (by omega))]))) ?_
   intro a hA
   refine seq_end ?_
   refine hK25 _ _ ?_
   refine wp_cond_false (hA.ev rfl) ?_
   refine wp_skip ?_
   refine hK24 _ _ ?_
   refine wp_seq_k (fun K26 hK26 => ?_)
   refine wp_region_lit ?_
   refine seq_call hA rfl rfl rfl (enters_func  rfl rfl (fun w => by kernel_rfl)) (rint1_any) ?_
   rintro _ w30 ⟨p27_1, p27_c1, p27_2, p27_c2, p27_3, p27_c3, p27_4, p27_c4, rfl, hn28, hb29⟩
   replace hS := hS.call hb29
   replace hS := hS.addR hn28.s1.rd
   replace hS := hS.addR hn28.s2.rd
   replace hS := hS.addR hn28.s3.rd
   replace hS := hS.addR hn28.s4.rd
   refine ⟨_, rfl, ?_⟩
   intro a hA
   refine seq_new (vs := [.bool false, .slice none 0 0, .slice none 0 0, .bool false, .slice none 0 0, .slice none 0 0]) (t := 26) hA hS rfl rfl rfl (fun g => .pointer (some ⟨g, 0, none⟩)) (d_alloc (z := .agg #[.bool false, .slice none 0 0, .slice none 0 0, .bool false, .slice none 0 0, .slice none 0 0]) (by kernel_rfl) rfl) rfl ?_
   intro g31 w32 hS a hA
   refine seq_store (us := [.bool ((rb (1 : Rat).num)), .slice p27_1 ((words (1 : Rat).num.natAbs).length) p27_c1, .slice p27_2 ((words (1 : Rat).den).length) p27_c2, .bool false, .slice p27_3 0 p27_c3, .slice p27_4 1 p27_c4]) hA hS rfl rfl (sets_store rfl rfl rfl (by kernel_rfl) hS 0 rfl rfl rfl) 0 rfl rfl rfl rfl ?_
   intro w33 hS
   refine seq_end ?_
   refine hK26 _ _ ?_
   refine wp_seq_k (fun K34 hK34 => ?_)
   refine wp_seq_k (fun K35 hK35 => ?_)
   refine wp_region_lit ?_
   refine seq_do hA rfl rfl rfl (d_assign rfl) ?_
   intro a hA
   refine seq_end ?_
   refine hK35 _ _ ?_
   refine wp_block ?_
   refine wp_loop_n (fun m a w1 => ∃ (i : Nat) (P : Rat) (po1 : Option Addr) (poc1 : Nat) (po2 : Option Addr) (poc2 : Nat), m = N - i ∧ (i ≤ N ∧ pwR u v i = (P, 0) ∧ pwB u v i = true ∧ LenR 512 P ∧ P = u ^ i ∧ rb P.num = false ∧ Ncap po1 poc1 (words P.num.natAbs) ∧ Ncap po2 poc2 (words P.den)) ∧ Sl a 87 [(0, .agg #[.bool (rb u.num), .slice a1 ((words u.num.natAbs).length) ac1, .slice a2 ((words u.den).length) ac2, .bool (rb v.num), .slice a3 ((words v.num.natAbs).length) ac3, .slice a4 ((words v.den).length) ac4]), (1, .int .i64 (((N : Nat) : Int))), (2, .pointer (some ⟨g2, 0, none⟩)), (4, .pointer (some ⟨g4, 0, none⟩)), (6, .int .i64 (((N : Nat) : Int))), (7, .pointer (some ⟨g31, 0, none⟩)), (8, .int .i64 (((i : Nat) : Int))), (9, .agg #[.bool (rb u.num), .slice a1 ((words u.num.natAbs).length) ac1, .slice a2 ((words u.den).length) ac2, .bool (rb v.num), .slice a3 ((words v.num.natAbs).length) ac3, .slice a4 ((words v.den).length) ac4]), (10, .bool true), (11, .bool false), (13, .int .i64 (((N : Nat) : Int))), (14, .bool false), (15, .bool false), (16, .int .i64 (((N : Nat) : Int))), (17, .bool false), (18, .bool false), (20, .int .i64 (((N : Nat) : Int))), (21, .bool false), (28, .bool false), (30, .int .i64 (((N : Nat) : Int))), (31, .int .i64 (((N : Nat) : Int))), (32, .bool false), (35, .agg #[.bool ((rb (1 : Rat).num)), .slice p27_1 ((words (1 : Rat).num.natAbs).length) p27_c1, .slice p27_2 ((words (1 : Rat).den).length) p27_c2, .bool false, .slice p27_3 0 p27_c3, .slice p27_4 1 p27_c4])] ∧ St w w1 [(g31, [.bool ((rb P.num)), .slice po1 ((words P.num.natAbs).length) poc1, .slice po2 ((words P.den).length) poc2, .bool false, .slice p27_3 0 p27_c3, .slice p27_4 1 p27_c4]), (g4, [.bool false, .slice none 0 0, .slice none 0 0, .bool false, .slice none 0 0, .slice none 0 0]), (g2, [.bool (rb u.num), .slice a1 ((words u.num.natAbs).length) ac1, .slice a2 ((words u.den).length) ac2, .bool (rb v.num), .slice a3 ((words v.num.natAbs).length) ac3, .slice a4 ((words v.den).length) ac4])] [(po1, words P.num.natAbs), (po2, words P.den), (p27_4, [1]), (p27_3, []), (p27_2, words (1 : Rat).den), (p27_1, words (1 : Rat).num.natAbs), (a4, words v.den), (a3, words v.num.natAbs), (a2, words u.den), (a1, words u.num.natAbs)] []) _ ⟨0, 1, p27_1, p27_c1, p27_2, p27_c2, rfl, ⟨by omega, rfl, rfl, len_one, (Rat.pow_zero u).symm, rfl, ⟨hn28.s1.nil, hn28.s1.cap⟩, ⟨hn28.s2.nil, hn28.s2.cap⟩⟩, hA.keep _ ⟨rfl, rfl, rfl, rfl, rfl, rfl, rfl, rfl, rfl, rfl, rfl, rfl, rfl, rfl, rfl, rfl, rfl, rfl, rfl, rfl, rfl, rfl, rfl, trivial⟩, ((hS.pickR [(p27_1, words (1 : Rat).num.natAbs), (p27_2, words (1 : Rat).den), (p27_4, [1]), (p27_3, []), (p27_2, words (1 : Rat).den), (p27_1, words (1 : Rat).num.natAbs), (a4, words v.den), (a3, words v.num.natAbs), (a2, words u.den), (a1, words u.num.natAbs)] ⟨⟨3, rfl⟩, ⟨⟨2, rfl⟩, ⟨⟨0, rfl⟩, ⟨⟨1, rfl⟩, ⟨⟨2, rfl⟩, ⟨⟨3, rfl⟩, ⟨⟨4, rfl⟩, ⟨⟨5, rfl⟩, ⟨⟨6, rfl⟩, ⟨⟨7, rfl⟩, trivial⟩⟩⟩⟩⟩⟩⟩⟩⟩⟩).subL _ (.refl _))⟩ ?_
   clear hS hA
   rintro m a w36 ⟨i, P, po1, poc1, po2, poc2, rfl, hinv38, hA, hS⟩ K37 hK37
   obtain ⟨hi9, hp9, hB9, LP, hPw, hPs, kn1, kn2⟩ := hinv38
   have hq9 := rpow_num hPw
   have hn9 : P.num.natAbs * u.num.natAbs = (P * u).num.natAbs := by rw [hq9.1, Int.natAbs_mul]
   have hd9 : P.den * u.den = (P * u).den := hq9.2.symm
   have l9a := LP.1
   have l9b := LP.2
   have l9c := LU.1
   have l9d := LU.2
   have LPu : LenR 9000 (P * u) := (lenR_mul LP LU).mono (by decide)
   have hs9 : pwR u v (i + 1) = (P * u, 0) := by
     show ((pwR u v i).1 * u - (pwR u v i).2 * v, (pwR u v i).1 * v + (pwR u v i).2 * u) = (P * u, 0)
     rw [hp9, hv0]
     congr 1 <;> grind
   have hPu : P * u = u ^ (i + 1) := by rw [hPw, Rat.pow_succ]
   have hsg9 : rb (P * u).num = false := by rw [hq9.1]; exact rb_nn hPs hsu
   refine wp_seq_k (fun K39 hK39 => ?_)
   refine wp_seq_k (fun K40 hK40 => ?_)
   refine wp_region_lit ?_
   refine seq_do hA rfl rfl rfl (d_move rfl) ?_
   intro a hA
   refine seq_do hA rfl rfl rfl (d_move rfl) ?_
   intro a hA
   rcases Bool.eq_false_or_eq_true (decide (((i : Nat) : Int) < ((N : Nat) : Int))) with hb41 | hb41
   · have hb41' := of_decide_eq_true hb41
     refine seq_do (v := .bool true) hA rfl rfl rfl (d_bin rfl rfl (fun w => (bin_lss w).trans (by rw [hb41]))) ?_
     intro a hA
     refine seq_end ?_
     refine hK40 _ _ ?_
     refine wp_cond_true (hA.ev rfl) ?_
     refine wp_skip ?_
     refine hK39 _ _ ?_
     refine wp_seq_k (fun K42 hK42 => ?_)
     refine wp_block ?_
     refine wp_seq_k (fun K43 hK43 => ?_)
     refine wp_seq_k (fun K44 hK44 => ?_)
     refine wp_region_lit ?_
     refine seq_do hA rfl rfl rfl (d_loadS hS SmG_isS_26 rfl 2 rfl (cs := [.bool (rb u.num), .slice a1 ((words u.num.natAbs).length) ac1, .slice a2 ((words u.den).length) ac2, .bool (rb v.num), .slice a3 ((words v.num.natAbs).length) ac3, .slice a4 ((words v.den).length) ac4]) rfl rfl) ?_
     intro a hA
     refine seq_call hA rfl rfl rfl (enters_func  rfl rfl (fun w => by kernel_rfl)) (rrealQ_any (show Nm _ (Q6.rat u v) a1 ac1 a2 ac2 a3 ac3 a4 ac4 from ⟨⟨(hS.rd 9 rfl), ha.s1.nil, ha.s1.cap⟩, ⟨(hS.rd 8 rfl), ha.s2.nil, ha.s2.cap⟩, ⟨(hS.rd 7 rfl), ha.s3.nil, ha.s3.cap⟩, ⟨(hS.rd 6 rfl), ha.s4.nil, ha.s4.cap⟩⟩) (lenQ_rat hu hv) k2) ?_
     rintro _ w46 ⟨rfl, hb45⟩
     replace hS := hS.call hb45
     refine ⟨_, rfl, ?_⟩
     intro a hA
     refine seq_end ?_
     refine hK44 _ _ ?_
     refine wp_cond_true (hA.ev rfl) ?_
     have hJ66 : ∀ a w1, (∃ (J58 : Option Addr) (J59 : Nat) (J60 : Option Addr) (J61 : Nat), Sl a 87 [(0, .agg #[.bool (rb u.num), .slice a1 ((words u.num.natAbs).length) ac1, .slice a2 ((words u.den).length) ac2, .bool (rb v.num), .slice a3 ((words v.num.natAbs).length) ac3, .slice a4 ((words v.den).length) ac4]), (1, .int .i64 (((N : Nat) : Int))), (2, .pointer (some ⟨g2, 0, none⟩)), (4, .pointer (some ⟨g4, 0, none⟩)), (6, .int .i64 (((N : Nat) : Int))), (7, .pointer (some ⟨g31, 0, none⟩)), (8, .int .i64 (((i : Nat) : Int))), (9, .agg #[.bool (rb u.num), .slice a1 ((words u.num.natAbs).length) ac1, .slice a2 ((words u.den).length) ac2, .bool (rb v.num), .slice a3 ((words v.num.natAbs).length) ac3, .slice a4 ((words v.den).length) ac4]), (10, .bool true), (11, .bool false), (13, .int .i64 (((N : Nat) : Int))), (14, .bool false), (15, .bool false), (16, .int .i64 (((N : Nat) : Int))), (17, .bool false), (18, .bool false), (20, .int .i64 (((N : Nat) : Int))), (21, .bool false), (28, .bool false), (30, .int .i64 (((N : Nat) : Int))), (31, .int .i64 (((N : Nat) : Int))), (32, .bool false), (35, .agg #[.bool ((rb (1 : Rat).num)), .slice p27_1 ((words (1 : Rat).num.natAbs).length) p27_c1, .slice p27_2 ((words (1 : Rat).den).length) p27_c2, .bool false, .slice p27_3 0 p27_c3, .slice p27_4 1 p27_c4]), (36, .int .i64 (((i : Nat) : Int))), (37, .int .i64 (((N : Nat) : Int))), (38, .bool true), (41, .agg #[.bool (rb u.num), .slice a1 ((words u.num.natAbs).length) ac1, .slice a2 ((words u.den).length) ac2, .bool (rb v.num), .slice a3 ((words v.num.natAbs).length) ac3, .slice a4 ((words v.den).length) ac4]), (42, .bool true)] ∧ St w w1 [(g31, [.bool ((rb (P * u).num)), .slice J58 ((words (P * u).num.natAbs).length) J59, .slice J60 ((words (P * u).den).length) J61, .bool false, .slice p27_3 0 p27_c3, .slice p27_4 1 p27_c4]), (g4, [.bool false, .slice none 0 0, .slice none 0 0, .bool false, .slice none 0 0, .slice none 0 0]), (g2, [.bool (rb u.num), .slice a1 ((words u.num.natAbs).length) ac1, .slice a2 ((words u.den).length) ac2, .bool (rb v.num), .slice a3 ((words v.num.natAbs).length) ac3, .slice a4 ((words v.den).length) ac4])] [(J60, words (P * u).den), (J58, words (P * u).num.natAbs), (po1, words P.num.natAbs), (po2, words P.den), (p27_4, [1]), (p27_3, []), (p27_2, words (1 : Rat).den), (p27_1, words (1 : Rat).num.natAbs), (a4, words v.den), (a3, words v.num.natAbs), (a2, words u.den), (a1, words u.num.natAbs)] [] ∧ (J60 = none → J61 = 0) ∧ (words (P * u).den : List Nat).length ≤ J61 ∧ (J58 = none → J59 = 0) ∧ (words (P * u).num.natAbs : List Nat).length ≤ J59) → K43 a w1 := by
       clear hA hS
       rintro a w67 ⟨J58, J59, J60, J61, hA, hS, hn62, hc63, hn64, hc65⟩
       refine hK43 _ _ ?_
       refine wp_seq_k (fun K68 hK68 => ?_)
       refine wp_region_lit ?_
       refine seq_do hA rfl rfl rfl (d_loadS hS SmG_isS_26 rfl 0 rfl (cs := [.bool ((rb (P * u).num)), .slice J58 ((words (P * u).num.natAbs).length) J59, .slice J60 ((words (P * u).den).length) J61, .bool false, .slice p27_3 0 p27_c3, .slice p27_4 1 p27_c4]) rfl rfl) ?_
       intro a hA
       rcases Bool.eq_false_or_eq_true (decide (¬ (fitR (P * u) ∧ fitR 0))) with hb69 | hb69
       · have hb69' := of_decide_eq_true hb69
         refine seq_call hA rfl rfl rfl (enters_func  rfl rfl (fun w => by kernel_rfl)) (rlarge0_any (show Nm _ (Q6.real (P * u)) J58 J59 J60 J61 p27_3 p27_c3 p27_4 p27_c4 from ⟨⟨(hS.rd 1 rfl), hn64, hc65⟩, ⟨(hS.rd 0 rfl), hn62, hc63⟩, ⟨(hS.rd 5 rfl), hn28.s3.nil, hn28.s3.cap⟩, ⟨(hS.rd 4 rfl), hn28.s4.nil, hn28.s4.cap⟩⟩) LPu hb69) ?_
         rintro _ w71 ⟨rfl, hb70⟩
         replace hS := hS.call hb70
         refine ⟨_, rfl, ?_⟩
         intro a hA
         refine seq_end ?_
         refine hK68 _ _ ?_
         refine wp_cond_true (hA.ev rfl) ?_
         refine wp_seq_k (fun K72 hK72 => ?_)
         refine wp_region_lit ?_
         refine seq_do (v := .agg #[.bool false, .slice none 0 0, .slice none 0 0, .bool false, .slice none 0 0, .slice none 0 0]) hA rfl rfl rfl (d_build rfl (fun w => by kernel_rfl)) ?_
         intro a hA
         refine seq_store (us := [.bool false, .slice none 0 0, .slice none 0 0, .bool false, .slice none 0 0, .slice none 0 0]) hA hS rfl rfl (sets_store rfl rfl rfl (by kernel_rfl) hS 1 rfl rfl rfl) 1 rfl rfl rfl rfl ?_
         intro w73 hS
         refine seq_do hA rfl rfl rfl (d_assign rfl) ?_
         intro a hA
         refine seq_end ?_
         refine hK72 _ _ ?_
         refine wp_ret ?_
         refine hret _ _ ?_
         refine ends (v := .tuple #[.agg #[.bool false, .slice none 0 0, .slice none 0 0, .bool false, .slice none 0 0, .slice none 0 0], .int .i64 4]) hA rfl (.cons (res_cell hS SmG_isS_26 rfl 1 rfl (cs := [.bool false, .slice none 0 0, .slice none 0 0, .bool false, .slice none 0 0, .slice none 0 0]) rfl rfl) (.cons (res_tmp rfl) .nil)) rfl ?_
         rw [exptQ_pos hu hv h1 h2, if_neg (by rw [(pwB_stop (k := i + 1) (by omega) (by have h7 := of_decide_eq_true hb69; rw [hs9]; exact h7))]; decide)]
         exact ⟨none, 0, none, 0, none, 0, none, 0, rfl, ⟨(Sc.none _), (Sc.none _), (Sc.none _), (Sc.none _)⟩, hS.bel⟩
       · have hb69' := of_decide_eq_false hb69
         refine seq_call hA rfl rfl rfl (enters_func  rfl rfl (fun w => by kernel_rfl)) (rlarge0_any (show Nm _ (Q6.real (P * u)) J58 J59 J60 J61 p27_3 p27_c3 p27_4 p27_c4 from ⟨⟨(hS.rd 1 rfl), hn64, hc65⟩, ⟨(hS.rd 0 rfl), hn62, hc63⟩, ⟨(hS.rd 5 rfl), hn28.s3.nil, hn28.s3.cap⟩, ⟨(hS.rd 4 rfl), hn28.s4.nil, hn28.s4.cap⟩⟩) LPu hb69) ?_
         rintro _ w75 ⟨rfl, hb74⟩
         replace hS := hS.call hb74
         refine ⟨_, rfl, ?_⟩
         intro a hA
         refine seq_end ?_
         refine hK68 _ _ ?_
         refine wp_cond_false (hA.ev rfl) ?_
         refine wp_skip ?_
         refine hK42 _ _ ?_
         refine wp_region_lit ?_
         refine seq_do hA rfl rfl rfl (d_move rfl) ?_
         intro a hA
         refine seq_do (v := .int .i64 (((i + 1 : Nat) : Int))) hA rfl rfl rfl (d_bin rfl rfl (fun w => (bin_add (i64In (by omega) (by omega)) w).trans (by rw [show (((i : Nat) : Int) + 1 : Int) = ((i + 1 : Nat) : Int) from by omega]))) ?_
         intro a hA
         refine seq_do hA rfl rfl rfl (d_assign rfl) ?_
         intro a hA
         refine seq_end ?_
         refine hK37 _ _ _ (by omega) ⟨i + 1, (P * u), J58, J59, J60, J61, rfl, ⟨by omega, hs9, pwB_step hB9 (by rw [hs9]; exact (Decidable.not_not.1 (of_decide_eq_false hb69)).1) (by rw [hs9]; exact fit_zero), fit_lenR (Decidable.not_not.1 (of_decide_eq_false hb69)).1, hPu, hsg9, ⟨hn64, hc65⟩, ⟨hn62, hc63⟩⟩, hA.keep _ ⟨rfl, rfl, rfl, rfl, rfl, rfl, rfl, rfl, rfl, rfl, rfl, rfl, rfl, rfl, rfl, rfl, rfl, rfl, rfl, rfl, rfl, rfl, rfl, trivial⟩, ((hS.pickR [(J58, words (P * u).num.natAbs), (J60, words (P * u).den), (p27_4, [1]), (p27_3, []), (p27_2, words (1 : Rat).den), (p27_1, words (1 : Rat).num.natAbs), (a4, words v.den), (a3, words v.num.natAbs), (a2, words u.den), (a1, words u.num.natAbs)] ⟨⟨1, rfl⟩, ⟨⟨0, rfl⟩, ⟨⟨4, rfl⟩, ⟨⟨5, rfl⟩, ⟨⟨6, rfl⟩, ⟨⟨7, rfl⟩, ⟨⟨8, rfl⟩, ⟨⟨9, rfl⟩, ⟨⟨10, rfl⟩, ⟨⟨11, rfl⟩, trivial⟩⟩⟩⟩⟩⟩⟩⟩⟩⟩).subL _ (.refl _))⟩
     refine wp_draw (S := fun w1 => St w w1 [(g4, [.bool false, .slice none 0 0, .slice none 0 0, .bool false, .slice none 0 0, .slice none 0 0]), (g2, [.bool (rb u.num), .slice a1 ((words u.num.natAbs).length) ac1, .slice a2 ((words u.den).length) ac2, .bool (rb v.num), .slice a3 ((words v.num.natAbs).length) ac3, .slice a4 ((words v.den).length) ac4])] [(po1, words P.num.natAbs), (po2, words P.den), (p27_4, [1]), (p27_3, []), (p27_2, words (1 : Rat).den), (p27_1, words (1 : Rat).num.natAbs), (a4, words v.den), (a3, words v.num.natAbs), (a2, words u.den), (a1, words u.num.natAbs)] []) (by kernel_rfl) ?_
     replace hS := hS.drew
     refine any_tk (v := .pointer (some ⟨g31, 0, none⟩)) hA 0 rfl rfl rfl rfl hP (hS.partD (.cons _ (.cons_cons _ (.cons_cons _ .slnil))) 0 rfl (.refl _)) (fun w1 hS => d_field SmG_fld_26_0 rfl rfl) ?_
     intro a hA
     refine any_tk (v := .pointer (some ⟨g31, 0, none⟩)) hA 1 rfl rfl rfl rfl hP (hS.partD (.cons _ (.cons_cons _ (.cons_cons _ .slnil))) 0 rfl (.refl _)) (fun w1 hS => d_field SmG_fld_24_0 rfl rfl) ?_
     intro a hA
     refine any_tk (v := .pointer (some ⟨g2, 0, none⟩)) hA 3 rfl rfl rfl rfl hP (hS.partD (.cons _ (.cons_cons _ (.cons_cons _ .slnil))) 0 rfl (.refl _)) (fun w1 hS => d_field SmG_fld_26_0 rfl rfl) ?_
     intro a hA
     refine any_tk (v := .pointer (some ⟨g2, 0, none⟩)) hA 4 rfl rfl rfl rfl hP (hS.partD (.cons _ (.cons_cons _ (.cons_cons _ .slnil))) 0 rfl (.refl _)) (fun w1 hS => d_field SmG_fld_24_0 rfl rfl) ?_
     intro a hA
     refine any_tk hA 5 rfl rfl rfl rfl hP (hS.partD (.cons _ (.cons_cons _ (.cons_cons _ .slnil))) 0 rfl (.refl _)) (fun w1 hS => d_load1 hS SmG_is1_4 rfl 1 rfl rfl) ?_
     intro a hA
     refine any_tk (v := .pointer (some ⟨g31, 0, none⟩)) hA 14 rfl rfl rfl rfl hP (hS.partD (.cons _ (.cons_cons _ (.cons_cons _ .slnil))) 0 rfl (.refl _)) (fun w1 hS => d_field SmG_fld_26_0 rfl rfl) ?_
     intro a hA
     refine any_tk (v := .pointer (some ⟨g31, 1, none⟩)) hA 15 rfl rfl rfl rfl hP (hS.partD (.cons _ (.cons_cons _ (.cons_cons _ .slnil))) 0 rfl (.refl _)) (fun w1 hS => d_field SmG_fld_24_1 rfl rfl) ?_
     intro a hA
     refine any_tk (v := .pointer (some ⟨g2, 0, none⟩)) hA 17 rfl rfl rfl rfl hP (hS.partD (.cons _ (.cons_cons _ (.cons_cons _ .slnil))) 0 rfl (.refl _)) (fun w1 hS => d_field SmG_fld_26_0 rfl rfl) ?_
     intro a hA
     refine any_tk (v := .pointer (some ⟨g2, 1, none⟩)) hA 18 rfl rfl rfl rfl hP (hS.partD (.cons _ (.cons_cons _ (.cons_cons _ .slnil))) 0 rfl (.refl _)) (fun w1 hS => d_field SmG_fld_24_1 rfl rfl) ?_
     intro a hA
     refine any_tk hA 19 rfl rfl rfl rfl hP (hS.partD (.cons _ (.cons_cons _ (.cons_cons _ .slnil))) 0 rfl (.refl _)) (fun w1 hS => d_load1 hS SmG_is1_22 rfl 1 rfl rfl) ?_
     intro a hA
     refine any_tk (v := .pointer (some ⟨g31, 0, none⟩)) hA 21 rfl rfl rfl rfl hP (hS.partD (.cons _ (.cons_cons _ (.cons_cons _ .slnil))) 0 rfl (.refl _)) (fun w1 hS => d_field SmG_fld_26_0 rfl rfl) ?_
     intro a hA
     refine any_tk (v := .pointer (some ⟨g31, 2, none⟩)) hA 22 rfl rfl rfl rfl hP (hS.partD (.cons _ (.cons_cons _ (.cons_cons _ .slnil))) 0 rfl (.refl _)) (fun w1 hS => d_field SmG_fld_24_2 rfl rfl) ?_
     intro a hA
     refine any_tk (v := .pointer (some ⟨g2, 0, none⟩)) hA 24 rfl rfl rfl rfl hP (hS.partD (.cons _ (.cons_cons _ (.cons_cons _ .slnil))) 0 rfl (.refl _)) (fun w1 hS => d_field SmG_fld_26_0 rfl rfl) ?_
     intro a hA
     refine any_tk (v := .pointer (some ⟨g2, 2, none⟩)) hA 25 rfl rfl rfl rfl hP (hS.partD (.cons _ (.cons_cons _ (.cons_cons _ .slnil))) 0 rfl (.refl _)) (fun w1 hS => d_field SmG_fld_24_2 rfl rfl) ?_
     intro a hA
     refine any_tk hA 26 rfl rfl rfl rfl hP (hS.partD (.cons _ (.cons_cons _ (.cons_cons _ .slnil))) 0 rfl (.refl _)) (fun w1 hS => d_load1 hS SmG_is1_22 rfl 1 rfl rfl) ?_
     intro a hA
     refine any_many (rs := [2, 16, 23]) (by kernel_rfl) (by simp) ⟨?_, ?_, ?_, trivial⟩
     · refine op_do hA 2 rfl rfl rfl rfl (d_load1 hS SmG_is1_4 rfl 0 rfl rfl) (hS.partD (.cons _ (.cons_cons _ (.cons_cons _ .slnil))) 0 rfl (.refl _)) ?_
       intro a hA
       refine any_tk (v := .bool false) hA 6 rfl rfl rfl rfl hP (hS.partD (.cons _ (.cons_cons _ (.cons_cons _ .slnil))) 0 rfl (.refl _)) (fun w1 hS => d_bin rfl rfl (fun w => ((bin_neqB Tryz.underlying4) w).trans (by rw [show (!((rb P.num) == rb u.num)) = false from (by rw [hPs, hsu]; rfl)]))) ?_
       intro a hA
       refine any_tk hA 7 rfl rfl rfl rfl hP (hS.partD (.cons _ (.cons_cons _ (.cons_cons _ .slnil))) 0 rfl (.refl _)) (fun w1 hS => d_move rfl) ?_
       intro a hA
       refine any_skip hA 8 rfl rfl rfl rfl (by kernel_rfl) (by kernel_rfl) (by kernel_rfl) (fun c a w h => hP c a _ _ w h) (hS.partD (.cons _ (.cons_cons _ (.cons_cons _ .slnil))) 0 rfl (.refl _)) ?_
       intro a hA
       refine any_skip hA 9 rfl rfl rfl rfl (by kernel_rfl) (by kernel_rfl) (by kernel_rfl) (fun c a w h => hP c a _ _ w h) (hS.partD (.cons _ (.cons_cons _ (.cons_cons _ .slnil))) 0 rfl (.refl _)) ?_
       intro a hA
       refine any_skip hA 10 rfl rfl rfl rfl (by kernel_rfl) (by kernel_rfl) (by kernel_rfl) (fun c a w h => hP c a _ _ w h) (hS.partD (.cons _ (.cons_cons _ (.cons_cons _ .slnil))) 0 rfl (.refl _)) ?_
       intro a hA
       refine any_skip hA 11 rfl rfl rfl rfl (by kernel_rfl) (by kernel_rfl) (by kernel_rfl) (fun c a w h => hP c a _ _ w h) (hS.partD (.cons _ (.cons_cons _ (.cons_cons _ .slnil))) 0 rfl (.refl _)) ?_
       intro a hA
       refine any_skip hA 12 rfl rfl rfl rfl (by kernel_rfl) (by kernel_rfl) (by kernel_rfl) (fun c a w h => hP c a _ _ w h) (hS.partD (.cons _ (.cons_cons _ (.cons_cons _ .slnil))) 0 rfl (.refl _)) ?_
       intro a hA
       refine any_tk (v := .bool ((rb (P * u).num))) hA 13 rfl rfl rfl rfl hP (hS.partD (.cons _ (.cons_cons _ (.cons_cons _ .slnil))) 0 rfl (.refl _)) (fun w1 hS => d_pick rfl rfl rfl (by rw [hsg9]; rfl)) ?_
       intro a hA
       refine any_many (rs := [16, 23]) (by kernel_rfl) (by simp) ⟨?_, ?_, trivial⟩
       · refine op_do hA 16 rfl rfl rfl rfl (d_load1 hS SmG_is1_22 rfl 0 rfl rfl) (hS.partD (.cons _ (.cons_cons _ (.cons_cons _ .slnil))) 0 rfl (.refl _)) ?_
         intro a hA
         refine any_many (rs := [20, 23]) (by kernel_rfl) (by simp) ⟨?_, ?_, trivial⟩
         · refine op_call hA 20 rfl rfl rfl rfl (enters_func  rfl rfl (fun w => by kernel_rfl)) (rtimes_as hn9 _ _ (hS.rd 0 rfl) (hS.rd 9 rfl) (by omega) (by omega)) ?_
           rintro _ w80 ⟨ro76, rc77, rfl, ho78, hb79⟩
           replace hS := hS.call hb79
           replace hS := hS.addR ho78.rd
           refine ⟨_, rfl, (hS.partD (.cons _ (.cons_cons _ (.cons_cons _ .slnil))) 1 rfl (.refl _)), ?_⟩
           intro a hA
           refine any_one (by kernel_rfl) (op_do hA 23 rfl rfl rfl rfl (d_load1 hS SmG_is1_22 rfl 0 rfl rfl) (hS.partD (.cons _ (.cons_cons _ (.cons_cons _ .slnil))) 1 rfl (.refl _)) ?_)
           intro a hA
           refine any_one (by kernel_rfl) (op_call hA 27 rfl rfl rfl rfl (enters_func  rfl rfl (fun w => by kernel_rfl)) (rtimes_as hd9 _ _ (hS.rd 2 rfl) (hS.rd 9 rfl) (by omega) (by omega)) ?_)
           rintro _ w85 ⟨ro81, rc82, rfl, ho83, hb84⟩
           replace hS := hS.call hb84
           replace hS := hS.addR ho83.rd
           refine ⟨_, rfl, (hS.partD (.cons _ (.cons_cons _ (.cons_cons _ .slnil))) 2 rfl (.refl _)), ?_⟩
           intro a hA
           refine any_tk (v := .agg #[.bool ((rb (P * u).num)), .slice ro76 ((words (P * u).num.natAbs).length) rc77, .slice ro81 ((words (P * u).den).length) rc82]) hA 28 rfl rfl rfl rfl hP (hS.partD (.cons _ (.cons_cons _ (.cons_cons _ .slnil))) 2 rfl (.refl _)) (fun w1 hS => d_build rfl (fun w => by kernel_rfl)) ?_
           intro a hA
           refine any_tk (v := .pointer (some ⟨g31, 0, none⟩)) hA 29 rfl rfl rfl rfl hP (hS.partD (.cons _ (.cons_cons _ (.cons_cons _ .slnil))) 2 rfl (.refl _)) (fun w1 hS => d_field SmG_fld_26_0 rfl rfl) ?_
           intro a hA
           refine any_one (by kernel_rfl) (op_store (us := [.bool ((rb (P * u).num)), .slice ro76 ((words (P * u).num.natAbs).length) rc77, .slice ro81 ((words (P * u).den).length) rc82, .bool false, .slice p27_3 0 p27_c3, .slice p27_4 1 p27_c4]) hA hS 30 rfl rfl rfl (sets_store rfl rfl rfl (by kernel_rfl) hS 0 rfl rfl rfl) 0 rfl rfl rfl rfl ?_)
           intro w86 hS
           refine ⟨(hS.partD (.cons _ (.cons_cons _ (.cons_cons _ .slnil))) 2 rfl (.refl _)), ?_⟩
           refine any_end (by kernel_rfl) ?_
           refine hJ66 _ _ ⟨ro76, rc77, ro81, rc82, hA.keep _ ⟨rfl, rfl, rfl, rfl, rfl, rfl, rfl, rfl, rfl, rfl, rfl, rfl, rfl, rfl, rfl, rfl, rfl, rfl, rfl, rfl, rfl, rfl, rfl, rfl, rfl, rfl, rfl, rfl, trivial⟩, (St.pickRL hS ⟨⟨0, rfl⟩, ⟨⟨1, rfl⟩, ⟨⟨2, rfl⟩, ⟨⟨3, rfl⟩, ⟨⟨4, rfl⟩, ⟨⟨5, rfl⟩, ⟨⟨6, rfl⟩, ⟨⟨7, rfl⟩, ⟨⟨8, rfl⟩, ⟨⟨9, rfl⟩, ⟨⟨10, rfl⟩, ⟨⟨11, rfl⟩, trivial⟩⟩⟩⟩⟩⟩⟩⟩⟩⟩⟩⟩ [0, 1, 2] rfl (by decide)), ho83.nocap, ho83.caps, ho78.nocap, ho78.caps⟩
         · refine op_do hA 23 rfl rfl rfl rfl (d_load1 hS SmG_is1_22 rfl 0 rfl rfl) (hS.partD (.cons _ (.cons_cons _ (.cons_cons _ .slnil))) 0 rfl (.refl _)) ?_
           intro a hA
           refine any_one (by kernel_rfl) (op_call hA 20 rfl rfl rfl rfl (enters_func  rfl rfl (fun w => by kernel_rfl)) (rtimes_as hn9 _ _ (hS.rd 0 rfl) (hS.rd 9 rfl) (by omega) (by omega)) ?_)
           rintro _ w91 ⟨ro87, rc88, rfl, ho89, hb90⟩
           replace hS := hS.call hb90
           replace hS := hS.addR ho89.rd
           refine ⟨_, rfl, (hS.partD (.cons _ (.cons_cons _ (.cons_cons _ .slnil))) 1 rfl (.refl _)), ?_⟩
           intro a hA
           refine any_one (by kernel_rfl) (op_call hA 27 rfl rfl rfl rfl (enters_func  rfl rfl (fun w => by kernel_rfl)) (rtimes_as hd9 _ _ (hS.rd 2 rfl) (hS.rd 9 rfl) (by omega) (by omega)) ?_)
           rintro _ w96 ⟨ro92, rc93, rfl, ho94, hb95⟩
           replace hS := hS.call hb95
           replace hS := hS.addR ho94.rd
           refine ⟨_, rfl, (hS.partD (.cons _ (.cons_cons _ (.cons_cons _ .slnil))) 2 rfl (.refl _)), ?_⟩
           intro a hA
           refine any_tk (v := .agg #[.bool ((rb (P * u).num)), .slice ro87 ((words (P * u).num.natAbs).length) rc88, .slice ro92 ((words (P * u).den).length) rc93]) hA 28 rfl rfl rfl rfl hP (hS.partD (.cons _ (.cons_cons _ (.cons_cons _ .slnil))) 2 rfl (.refl _)) (fun w1 hS => d_build rfl (fun w => by kernel_rfl)) ?_
           intro a hA
           refine any_tk (v := .pointer (some ⟨g31, 0, none⟩)) hA 29 rfl rfl rfl rfl hP (hS.partD (.cons _ (.cons_cons _ (.cons_cons _ .slnil))) 2 rfl (.refl _)) (fun w1 hS => d_field SmG_fld_26_0 rfl rfl) ?_
           intro a hA
           refine any_one (by kernel_rfl) (op_store (us := [.bool ((rb (P * u).num)), .slice ro87 ((words (P * u).num.natAbs).length) rc88, .slice ro92 ((words (P * u).den).length) rc93, .bool false, .slice p27_3 0 p27_c3, .slice p27_4 1 p27_c4]) hA hS 30 rfl rfl rfl (sets_store rfl rfl rfl (by kernel_rfl) hS 0 rfl rfl rfl) 0 rfl rfl rfl rfl ?_)
           intro w97 hS
           refine ⟨(hS.partD (.cons _ (.cons_cons _ (.cons_cons _ .slnil))) 2 rfl (.refl _)), ?_⟩
           refine any_end (by kernel_rfl) ?_
           refine hJ66 _ _ ⟨ro87, rc88, ro92, rc93, hA.keep _ ⟨rfl, rfl, rfl, rfl, rfl, rfl, rfl, rfl, rfl, rfl, rfl, rfl, rfl, rfl, rfl, rfl, rfl, rfl, rfl, rfl, rfl, rfl, rfl, rfl, rfl, rfl, rfl, rfl, trivial⟩, (St.pickRL hS ⟨⟨0, rfl⟩, ⟨⟨1, rfl⟩, ⟨⟨2, rfl⟩, ⟨⟨3, rfl⟩, ⟨⟨4, rfl⟩, ⟨⟨5, rfl⟩, ⟨⟨6, rfl⟩, ⟨⟨7, rfl⟩, ⟨⟨8, rfl⟩, ⟨⟨9, rfl⟩, ⟨⟨10, rfl⟩, ⟨⟨11, rfl⟩, trivial⟩⟩⟩⟩⟩⟩⟩⟩⟩⟩⟩⟩ [0, 1, 2] rfl (by decide)), ho94.nocap, ho94.caps, ho89.nocap, ho89.caps⟩
       · refine op_do hA 23 rfl rfl rfl rfl (d_load1 hS SmG_is1_22 rfl 0 rfl rfl) (hS.partD (.cons _ (.cons_cons _ (.cons_cons _ .slnil))) 0 rfl (.refl _)) ?_
         intro a hA
         refine any_one (by kernel_rfl) (op_do hA 16 rfl rfl rfl rfl (d_load1 hS SmG_is1_22 rfl 0 rfl rfl) (hS.partD (.cons _ (.cons_cons _ (.cons_cons _ .slnil))) 0 rfl (.refl _)) ?_)
         intro a hA
         refine any_one (by kernel_rfl) (op_call hA 20 rfl rfl rfl rfl (enters_func  rfl rfl (fun w => by kernel_rfl)) (rtimes_as hn9 _ _ (hS.rd 0 rfl) (hS.rd 9 rfl) (by omega) (by omega)) ?_)
         rintro _ w102 ⟨ro98, rc99, rfl, ho100, hb101⟩
         replace hS := hS.call hb101
         replace hS := hS.addR ho100.rd
         refine ⟨_, rfl, (hS.partD (.cons _ (.cons_cons _ (.cons_cons _ .slnil))) 1 rfl (.refl _)), ?_⟩
         intro a hA
         refine any_one (by kernel_rfl) (op_call hA 27 rfl rfl rfl rfl (enters_func  rfl rfl (fun w => by kernel_rfl)) (rtimes_as hd9 _ _ (hS.rd 2 rfl) (hS.rd 9 rfl) (by omega) (by omega)) ?_)
         rintro _ w107 ⟨ro103, rc104, rfl, ho105, hb106⟩
         replace hS := hS.call hb106
         replace hS := hS.addR ho105.rd
         refine ⟨_, rfl, (hS.partD (.cons _ (.cons_cons _ (.cons_cons _ .slnil))) 2 rfl (.refl _)), ?_⟩
         intro a hA
         refine any_tk (v := .agg #[.bool ((rb (P * u).num)), .slice ro98 ((words (P * u).num.natAbs).length) rc99, .slice ro103 ((words (P * u).den).length) rc104]) hA 28 rfl rfl rfl rfl hP (hS.partD (.cons _ (.cons_cons _ (.cons_cons _ .slnil))) 2 rfl (.refl _)) (fun w1 hS => d_build rfl (fun w => by kernel_rfl)) ?_
         intro a hA
         refine any_tk (v := .pointer (some ⟨g31, 0, none⟩)) hA 29 rfl rfl rfl rfl hP (hS.partD (.cons _ (.cons_cons _ (.cons_cons _ .slnil))) 2 rfl (.refl _)) (fun w1 hS => d_field SmG_fld_26_0 rfl rfl) ?_
         intro a hA
         refine any_one (by kernel_rfl) (op_store (us := [.bool ((rb (P * u).num)), .slice ro98 ((words (P * u).num.natAbs).length) rc99, .slice ro103 ((words (P * u).den).length) rc104, .bool false, .slice p27_3 0 p27_c3, .slice p27_4 1 p27_c4]) hA hS 30 rfl rfl rfl (sets_store rfl rfl rfl (by kernel_rfl) hS 0 rfl rfl rfl) 0 rfl rfl rfl rfl ?_)
         intro w108 hS
         refine ⟨(hS.partD (.cons _ (.cons_cons _ (.cons_cons _ .slnil))) 2 rfl (.refl _)), ?_⟩
         refine any_end (by kernel_rfl) ?_
         refine hJ66 _ _ ⟨ro98, rc99, ro103, rc104, hA.keep _ ⟨rfl, rfl, rfl, rfl, rfl, rfl, rfl, rfl, rfl, rfl, rfl, rfl, rfl, rfl, rfl, rfl, rfl, rfl, rfl, rfl, rfl, rfl, rfl, rfl, rfl, rfl, rfl, rfl, trivial⟩, (St.pickRL hS ⟨⟨0, rfl⟩, ⟨⟨1, rfl⟩, ⟨⟨2, rfl⟩, ⟨⟨3, rfl⟩, ⟨⟨4, rfl⟩, ⟨⟨5, rfl⟩, ⟨⟨6, rfl⟩, ⟨⟨7, rfl⟩, ⟨⟨8, rfl⟩, ⟨⟨9, rfl⟩, ⟨⟨10, rfl⟩, ⟨⟨11, rfl⟩, trivial⟩⟩⟩⟩⟩⟩⟩⟩⟩⟩⟩⟩ [0, 1, 2] rfl (by decide)), ho105.nocap, ho105.caps, ho100.nocap, ho100.caps⟩
     · refine op_do hA 16 rfl rfl rfl rfl (d_load1 hS SmG_is1_22 rfl 0 rfl rfl) (hS.partD (.cons _ (.cons_cons _ (.cons_cons _ .slnil))) 0 rfl (.refl _)) ?_
       intro a hA
       refine any_many (rs := [2, 23]) (by kernel_rfl) (by simp) ⟨?_, ?_, trivial⟩
       · refine op_do hA 2 rfl rfl rfl rfl (d_load1 hS SmG_is1_4 rfl 0 rfl rfl) (hS.partD (.cons _ (.cons_cons _ (.cons_cons _ .slnil))) 0 rfl (.refl _)) ?_
         intro a hA
         refine any_tk (v := .bool false) hA 6 rfl rfl rfl rfl hP (hS.partD (.cons _ (.cons_cons _ (.cons_cons _ .slnil))) 0 rfl (.refl _)) (fun w1 hS => d_bin rfl rfl (fun w => ((bin_neqB Tryz.underlying4) w).trans (by rw [show (!((rb P.num) == rb u.num)) = false from (by rw [hPs, hsu]; rfl)]))) ?_
         intro a hA
         refine any_tk hA 7 rfl rfl rfl rfl hP (hS.partD (.cons _ (.cons_cons _ (.cons_cons _ .slnil))) 0 rfl (.refl _)) (fun w1 hS => d_move rfl) ?_
         intro a hA
         refine any_skip hA 8 rfl rfl rfl rfl (by kernel_rfl) (by kernel_rfl) (by kernel_rfl) (fun c a w h => hP c a _ _ w h) (hS.partD (.cons _ (.cons_cons _ (.cons_cons _ .slnil))) 0 rfl (.refl _)) ?_
         intro a hA
         refine any_skip hA 9 rfl rfl rfl rfl (by kernel_rfl) (by kernel_rfl) (by kernel_rfl) (fun c a w h => hP c a _ _ w h) (hS.partD (.cons _ (.cons_cons _ (.cons_cons _ .slnil))) 0 rfl (.refl _)) ?_
         intro a hA
         refine any_skip hA 10 rfl rfl rfl rfl (by kernel_rfl) (by kernel_rfl) (by kernel_rfl) (fun c a w h => hP c a _ _ w h) (hS.partD (.cons _ (.cons_cons _ (.cons_cons _ .slnil))) 0 rfl (.refl _)) ?_
         intro a hA
         refine any_skip hA 11 rfl rfl rfl rfl (by kernel_rfl) (by kernel_rfl) (by kernel_rfl) (fun c a w h => hP c a _ _ w h) (hS.partD (.cons _ (.cons_cons _ (.cons_cons _ .slnil))) 0 rfl (.refl _)) ?_
         intro a hA
         refine any_skip hA 12 rfl rfl rfl rfl (by kernel_rfl) (by kernel_rfl) (by kernel_rfl) (fun c a w h => hP c a _ _ w h) (hS.partD (.cons _ (.cons_cons _ (.cons_cons _ .slnil))) 0 rfl (.refl _)) ?_
         intro a hA
         refine any_tk (v := .bool ((rb (P * u).num))) hA 13 rfl rfl rfl rfl hP (hS.partD (.cons _ (.cons_cons _ (.cons_cons _ .slnil))) 0 rfl (.refl _)) (fun w1 hS => d_pick rfl rfl rfl (by rw [hsg9]; rfl)) ?_
         intro a hA
         refine any_many (rs := [20, 23]) (by kernel_rfl) (by simp) ⟨?_, ?_, trivial⟩
         · refine op_call hA 20 rfl rfl rfl rfl (enters_func  rfl rfl (fun w => by kernel_rfl)) (rtimes_as hn9 _ _ (hS.rd 0 rfl) (hS.rd 9 rfl) (by omega) (by omega)) ?_
           rintro _ w113 ⟨ro109, rc110, rfl, ho111, hb112⟩
           replace hS := hS.call hb112
           replace hS := hS.addR ho111.rd
           refine ⟨_, rfl, (hS.partD (.cons _ (.cons_cons _ (.cons_cons _ .slnil))) 1 rfl (.refl _)), ?_⟩
           intro a hA
           refine any_one (by kernel_rfl) (op_do hA 23 rfl rfl rfl rfl (d_load1 hS SmG_is1_22 rfl 0 rfl rfl) (hS.partD (.cons _ (.cons_cons _ (.cons_cons _ .slnil))) 1 rfl (.refl _)) ?_)
           intro a hA
           refine any_one (by kernel_rfl) (op_call hA 27 rfl rfl rfl rfl (enters_func  rfl rfl (fun w => by kernel_rfl)) (rtimes_as hd9 _ _ (hS.rd 2 rfl) (hS.rd 9 rfl) (by omega) (by omega)) ?_)
           rintro _ w118 ⟨ro114, rc115, rfl, ho116, hb117⟩
           replace hS := hS.call hb117
           replace hS := hS.addR ho116.rd
           refine ⟨_, rfl, (hS.partD (.cons _ (.cons_cons _ (.cons_cons _ .slnil))) 2 rfl (.refl _)), ?_⟩
           intro a hA
           refine any_tk (v := .agg #[.bool ((rb (P * u).num)), .slice ro109 ((words (P * u).num.natAbs).length) rc110, .slice ro114 ((words (P * u).den).length) rc115]) hA 28 rfl rfl rfl rfl hP (hS.partD (.cons _ (.cons_cons _ (.cons_cons _ .slnil))) 2 rfl (.refl _)) (fun w1 hS => d_build rfl (fun w => by kernel_rfl)) ?_
           intro a hA
           refine any_tk (v := .pointer (some ⟨g31, 0, none⟩)) hA 29 rfl rfl rfl rfl hP (hS.partD (.cons _ (.cons_cons _ (.cons_cons _ .slnil))) 2 rfl (.refl _)) (fun w1 hS => d_field SmG_fld_26_0 rfl rfl) ?_
           intro a hA
           refine any_one (by kernel_rfl) (op_store (us := [.bool ((rb (P * u).num)), .slice ro109 ((words (P * u).num.natAbs).length) rc110, .slice ro114 ((words (P * u).den).length) rc115, .bool false, .slice p27_3 0 p27_c3, .slice p27_4 1 p27_c4]) hA hS 30 rfl rfl rfl (sets_store rfl rfl rfl (by kernel_rfl) hS 0 rfl rfl rfl) 0 rfl rfl rfl rfl ?_)
           intro w119 hS
           refine ⟨(hS.partD (.cons _ (.cons_cons _ (.cons_cons _ .slnil))) 2 rfl (.refl _)), ?_⟩
           refine any_end (by kernel_rfl) ?_
           refine hJ66 _ _ ⟨ro109, rc110, ro114, rc115, hA.keep _ ⟨rfl, rfl, rfl, rfl, rfl, rfl, rfl, rfl, rfl, rfl, rfl, rfl, rfl, rfl, rfl, rfl, rfl, rfl, rfl, rfl, rfl, rfl, rfl, rfl, rfl, rfl, rfl, rfl, trivial⟩, (St.pickRL hS ⟨⟨0, rfl⟩, ⟨⟨1, rfl⟩, ⟨⟨2, rfl⟩, ⟨⟨3, rfl⟩, ⟨⟨4, rfl⟩, ⟨⟨5, rfl⟩, ⟨⟨6, rfl⟩, ⟨⟨7, rfl⟩, ⟨⟨8, rfl⟩, ⟨⟨9, rfl⟩, ⟨⟨10, rfl⟩, ⟨⟨11, rfl⟩, trivial⟩⟩⟩⟩⟩⟩⟩⟩⟩⟩⟩⟩ [0, 1, 2] rfl (by decide)), ho116.nocap, ho116.caps, ho111.nocap, ho111.caps⟩
         · refine op_do hA 23 rfl rfl rfl rfl (d_load1 hS SmG_is1_22 rfl 0 rfl rfl) (hS.partD (.cons _ (.cons_cons _ (.cons_cons _ .slnil))) 0 rfl (.refl _)) ?_
           intro a hA
           refine any_one (by kernel_rfl) (op_call hA 20 rfl rfl rfl rfl (enters_func  rfl rfl (fun w => by kernel_rfl)) (rtimes_as hn9 _ _ (hS.rd 0 rfl) (hS.rd 9 rfl) (by omega) (by omega)) ?_)
           rintro _ w124 ⟨ro120, rc121, rfl, ho122, hb123⟩
           replace hS := hS.call hb123
           replace hS := hS.addR ho122.rd
           refine ⟨_, rfl, (hS.partD (.cons _ (.cons_cons _ (.cons_cons _ .slnil))) 1 rfl (.refl _)), ?_⟩
           intro a hA
           refine any_one (by kernel_rfl) (op_call hA 27 rfl rfl rfl rfl (enters_func  rfl rfl (fun w => by kernel_rfl)) (rtimes_as hd9 _ _ (hS.rd 2 rfl) (hS.rd 9 rfl) (by omega) (by omega)) ?_)
           rintro _ w129 ⟨ro125, rc126, rfl, ho127, hb128⟩
           replace hS := hS.call hb128
           replace hS := hS.addR ho127.rd
           refine ⟨_, rfl, (hS.partD (.cons _ (.cons_cons _ (.cons_cons _ .slnil))) 2 rfl (.refl _)), ?_⟩
           intro a hA
           refine any_tk (v := .agg #[.bool ((rb (P * u).num)), .slice ro120 ((words (P * u).num.natAbs).length) rc121, .slice ro125 ((words (P * u).den).length) rc126]) hA 28 rfl rfl rfl rfl hP (hS.partD (.cons _ (.cons_cons _ (.cons_cons _ .slnil))) 2 rfl (.refl _)) (fun w1 hS => d_build rfl (fun w => by kernel_rfl)) ?_
           intro a hA
           refine any_tk (v := .pointer (some ⟨g31, 0, none⟩)) hA 29 rfl rfl rfl rfl hP (hS.partD (.cons _ (.cons_cons _ (.cons_cons _ .slnil))) 2 rfl (.refl _)) (fun w1 hS => d_field SmG_fld_26_0 rfl rfl) ?_
           intro a hA
           refine any_one (by kernel_rfl) (op_store (us := [.bool ((rb (P * u).num)), .slice ro120 ((words (P * u).num.natAbs).length) rc121, .slice ro125 ((words (P * u).den).length) rc126, .bool false, .slice p27_3 0 p27_c3, .slice p27_4 1 p27_c4]) hA hS 30 rfl rfl rfl (sets_store rfl rfl rfl (by kernel_rfl) hS 0 rfl rfl rfl) 0 rfl rfl rfl rfl ?_)
           intro w130 hS
           refine ⟨(hS.partD (.cons _ (.cons_cons _ (.cons_cons _ .slnil))) 2 rfl (.refl _)), ?_⟩
           refine any_end (by kernel_rfl) ?_
           refine hJ66 _ _ ⟨ro120, rc121, ro125, rc126, hA.keep _ ⟨rfl, rfl, rfl, rfl, rfl, rfl, rfl, rfl, rfl, rfl, rfl, rfl, rfl, rfl, rfl, rfl, rfl, rfl, rfl, rfl, rfl, rfl, rfl, rfl, rfl, rfl, rfl, rfl, trivial⟩, (St.pickRL hS ⟨⟨0, rfl⟩, ⟨⟨1, rfl⟩, ⟨⟨2, rfl⟩, ⟨⟨3, rfl⟩, ⟨⟨4, rfl⟩, ⟨⟨5, rfl⟩, ⟨⟨6, rfl⟩, ⟨⟨7, rfl⟩, ⟨⟨8, rfl⟩, ⟨⟨9, rfl⟩, ⟨⟨10, rfl⟩, ⟨⟨11, rfl⟩, trivial⟩⟩⟩⟩⟩⟩⟩⟩⟩⟩⟩⟩ [0, 1, 2] rfl (by decide)), ho127.nocap, ho127.caps, ho122.nocap, ho122.caps⟩
       · refine op_do hA 23 rfl rfl rfl rfl (d_load1 hS SmG_is1_22 rfl 0 rfl rfl) (hS.partD (.cons _ (.cons_cons _ (.cons_cons _ .slnil))) 0 rfl (.refl _)) ?_
         intro a hA
         refine any_one (by kernel_rfl) (op_do hA 2 rfl rfl rfl rfl (d_load1 hS SmG_is1_4 rfl 0 rfl rfl) (hS.partD (.cons _ (.cons_cons _ (.cons_cons _ .slnil))) 0 rfl (.refl _)) ?_)
         intro a hA
         refine any_tk (v := .bool false) hA 6 rfl rfl rfl rfl hP (hS.partD (.cons _ (.cons_cons _ (.cons_cons _ .slnil))) 0 rfl (.refl _)) (fun w1 hS => d_bin rfl rfl (fun w => ((bin_neqB Tryz.underlying4) w).trans (by rw [show (!((rb P.num) == rb u.num)) = false from (by rw [hPs, hsu]; rfl)]))) ?_
         intro a hA
         refine any_tk hA 7 rfl rfl rfl rfl hP (hS.partD (.cons _ (.cons_cons _ (.cons_cons _ .slnil))) 0 rfl (.refl _)) (fun w1 hS => d_move rfl) ?_
         intro a hA
         refine any_skip hA 8 rfl rfl rfl rfl (by kernel_rfl) (by kernel_rfl) (by kernel_rfl) (fun c a w h => hP c a _ _ w h) (hS.partD (.cons _ (.cons_cons _ (.cons_cons _ .slnil))) 0 rfl (.refl _)) ?_
         intro a hA
         refine any_skip hA 9 rfl rfl rfl rfl (by kernel_rfl) (by kernel_rfl) (by kernel_rfl) (fun c a w h => hP c a _ _ w h) (hS.partD (.cons _ (.cons_cons _ (.cons_cons _ .slnil))) 0 rfl (.refl _)) ?_
         intro a hA
         refine any_skip hA 10 rfl rfl rfl rfl (by kernel_rfl) (by kernel_rfl) (by kernel_rfl) (fun c a w h => hP c a _ _ w h) (hS.partD (.cons _ (.cons_cons _ (.cons_cons _ .slnil))) 0 rfl (.refl _)) ?_
         intro a hA
         refine any_skip hA 11 rfl rfl rfl rfl (by kernel_rfl) (by kernel_rfl) (by kernel_rfl) (fun c a w h => hP c a _ _ w h) (hS.partD (.cons _ (.cons_cons _ (.cons_cons _ .slnil))) 0 rfl (.refl _)) ?_
         intro a hA
         refine any_skip hA 12 rfl rfl rfl rfl (by kernel_rfl) (by kernel_rfl) (by kernel_rfl) (fun c a w h => hP c a _ _ w h) (hS.partD (.cons _ (.cons_cons _ (.cons_cons _ .slnil))) 0 rfl (.refl _)) ?_
         intro a hA
         refine any_tk (v := .bool ((rb (P * u).num))) hA 13 rfl rfl rfl rfl hP (hS.partD (.cons _ (.cons_cons _ (.cons_cons _ .slnil))) 0 rfl (.refl _)) (fun w1 hS => d_pick rfl rfl rfl (by rw [hsg9]; rfl)) ?_
         intro a hA
         refine any_one (by kernel_rfl) (op_call hA 20 rfl rfl rfl rfl (enters_func  rfl rfl (fun w => by kernel_rfl)) (rtimes_as hn9 _ _ (hS.rd 0 rfl) (hS.rd 9 rfl) (by omega) (by omega)) ?_)
         rintro _ w135 ⟨ro131, rc132, rfl, ho133, hb134⟩
         replace hS := hS.call hb134
         replace hS := hS.addR ho133.rd
         refine ⟨_, rfl, (hS.partD (.cons _ (.cons_cons _ (.cons_cons _ .slnil))) 1 rfl (.refl _)), ?_⟩
         intro a hA
         refine any_one (by kernel_rfl) (op_call hA 27 rfl rfl rfl rfl (enters_func  rfl rfl (fun w => by kernel_rfl)) (rtimes_as hd9 _ _ (hS.rd 2 rfl) (hS.rd 9 rfl) (by omega) (by omega)) ?_)
         rintro _ w140 ⟨ro136, rc137, rfl, ho138, hb139⟩
         replace hS := hS.call hb139
         replace hS := hS.addR ho138.rd
         refine ⟨_, rfl, (hS.partD (.cons _ (.cons_cons _ (.cons_cons _ .slnil))) 2 rfl (.refl _)), ?_⟩
         intro a hA
         refine any_tk (v := .agg #[.bool ((rb (P * u).num)), .slice ro131 ((words (P * u).num.natAbs).length) rc132, .slice ro136 ((words (P * u).den).length) rc137]) hA 28 rfl rfl rfl rfl hP (hS.partD (.cons _ (.cons_cons _ (.cons_cons _ .slnil))) 2 rfl (.refl _)) (fun w1 hS => d_build rfl (fun w => by kernel_rfl)) ?_
         intro a hA
         refine any_tk (v := .pointer (some ⟨g31, 0, none⟩)) hA 29 rfl rfl rfl rfl hP (hS.partD (.cons _ (.cons_cons _ (.cons_cons _ .slnil))) 2 rfl (.refl _)) (fun w1 hS => d_field SmG_fld_26_0 rfl rfl) ?_
         intro a hA
         refine any_one (by kernel_rfl) (op_store (us := [.bool ((rb (P * u).num)), .slice ro131 ((words (P * u).num.natAbs).length) rc132, .slice ro136 ((words (P * u).den).length) rc137, .bool false, .slice p27_3 0 p27_c3, .slice p27_4 1 p27_c4]) hA hS 30 rfl rfl rfl (sets_store rfl rfl rfl (by kernel_rfl) hS 0 rfl rfl rfl) 0 rfl rfl rfl rfl ?_)
         intro w141 hS
         refine ⟨(hS.partD (.cons _ (.cons_cons _ (.cons_cons _ .slnil))) 2 rfl (.refl _)), ?_⟩
         refine any_end (by kernel_rfl) ?_
         refine hJ66 _ _ ⟨ro131, rc132, ro136, rc137, hA.keep _ ⟨rfl, rfl, rfl, rfl, rfl, rfl, rfl, rfl, rfl, rfl, rfl, rfl, rfl, rfl, rfl, rfl, rfl, rfl, rfl, rfl, rfl, rfl, rfl, rfl, rfl, rfl, rfl, rfl, trivial⟩, (St.pickRL hS ⟨⟨0, rfl⟩, ⟨⟨1, rfl⟩, ⟨⟨2, rfl⟩, ⟨⟨3, rfl⟩, ⟨⟨4, rfl⟩, ⟨⟨5, rfl⟩, ⟨⟨6, rfl⟩, ⟨⟨7, rfl⟩, ⟨⟨8, rfl⟩, ⟨⟨9, rfl⟩, ⟨⟨10, rfl⟩, ⟨⟨11, rfl⟩, trivial⟩⟩⟩⟩⟩⟩⟩⟩⟩⟩⟩⟩ [0, 1, 2] rfl (by decide)), ho138.nocap, ho138.caps, ho133.nocap, ho133.caps⟩
     · refine op_do hA 23 rfl rfl rfl rfl (d_load1 hS SmG_is1_22 rfl 0 rfl rfl) (hS.partD (.cons _ (.cons_cons _ (.cons_cons _ .slnil))) 0 rfl (.refl _)) ?_
       intro a hA
       refine any_many (rs := [2, 16]) (by kernel_rfl) (by simp) ⟨?_, ?_, trivial⟩
       · refine op_do hA 2 rfl rfl rfl rfl (d_load1 hS SmG_is1_4 rfl 0 rfl rfl) (hS.partD (.cons _ (.cons_cons _ (.cons_cons _ .slnil))) 0 rfl (.refl _)) ?_
         intro a hA
         refine any_tk (v := .bool false) hA 6 rfl rfl rfl rfl hP (hS.partD (.cons _ (.cons_cons _ (.cons_cons _ .slnil))) 0 rfl (.refl _)) (fun w1 hS => d_bin rfl rfl (fun w => ((bin_neqB Tryz.underlying4) w).trans (by rw [show (!((rb P.num) == rb u.num)) = false from (by rw [hPs, hsu]; rfl)]))) ?_
         intro a hA
         refine any_tk hA 7 rfl rfl rfl rfl hP (hS.partD (.cons _ (.cons_cons _ (.cons_cons _ .slnil))) 0 rfl (.refl _)) (fun w1 hS => d_move rfl) ?_
         intro a hA
         refine any_skip hA 8 rfl rfl rfl rfl (by kernel_rfl) (by kernel_rfl) (by kernel_rfl) (fun c a w h => hP c a _ _ w h) (hS.partD (.cons _ (.cons_cons _ (.cons_cons _ .slnil))) 0 rfl (.refl _)) ?_
         intro a hA
         refine any_skip hA 9 rfl rfl rfl rfl (by kernel_rfl) (by kernel_rfl) (by kernel_rfl) (fun c a w h => hP c a _ _ w h) (hS.partD (.cons _ (.cons_cons _ (.cons_cons _ .slnil))) 0 rfl (.refl _)) ?_
         intro a hA
         refine any_skip hA 10 rfl rfl rfl rfl (by kernel_rfl) (by kernel_rfl) (by kernel_rfl) (fun c a w h => hP c a _ _ w h) (hS.partD (.cons _ (.cons_cons _ (.cons_cons _ .slnil))) 0 rfl (.refl _)) ?_
         intro a hA
         refine any_skip hA 11 rfl rfl rfl rfl (by kernel_rfl) (by kernel_rfl) (by kernel_rfl) (fun c a w h => hP c a _ _ w h) (hS.partD (.cons _ (.cons_cons _ (.cons_cons _ .slnil))) 0 rfl (.refl _)) ?_
         intro a hA
         refine any_skip hA 12 rfl rfl rfl rfl (by kernel_rfl) (by kernel_rfl) (by kernel_rfl) (fun c a w h => hP c a _ _ w h) (hS.partD (.cons _ (.cons_cons _ (.cons_cons _ .slnil))) 0 rfl (.refl _)) ?_
         intro a hA
         refine any_tk (v := .bool ((rb (P * u).num))) hA 13 rfl rfl rfl rfl hP (hS.partD (.cons _ (.cons_cons _ (.cons_cons _ .slnil))) 0 rfl (.refl _)) (fun w1 hS => d_pick rfl rfl rfl (by rw [hsg9]; rfl)) ?_
         intro a hA
         refine any_one (by kernel_rfl) (op_do hA 16 rfl rfl rfl rfl (d_load1 hS SmG_is1_22 rfl 0 rfl rfl) (hS.partD (.cons _ (.cons_cons _ (.cons_cons _ .slnil))) 0 rfl (.refl _)) ?_)
         intro a hA
         refine any_one (by kernel_rfl) (op_call hA 20 rfl rfl rfl rfl (enters_func  rfl rfl (fun w => by kernel_rfl)) (rtimes_as hn9 _ _ (hS.rd 0 rfl) (hS.rd 9 rfl) (by omega) (by omega)) ?_)
         rintro _ w146 ⟨ro142, rc143, rfl, ho144, hb145⟩
         replace hS := hS.call hb145
         replace hS := hS.addR ho144.rd
         refine ⟨_, rfl, (hS.partD (.cons _ (.cons_cons _ (.cons_cons _ .slnil))) 1 rfl (.refl _)), ?_⟩
         intro a hA
         refine any_one (by kernel_rfl) (op_call hA 27 rfl rfl rfl rfl (enters_func  rfl rfl (fun w => by kernel_rfl)) (rtimes_as hd9 _ _ (hS.rd 2 rfl) (hS.rd 9 rfl) (by omega) (by omega)) ?_)
         rintro _ w151 ⟨ro147, rc148, rfl, ho149, hb150⟩
         replace hS := hS.call hb150
         replace hS := hS.addR ho149.rd
         refine ⟨_, rfl, (hS.partD (.cons _ (.cons_cons _ (.cons_cons _ .slnil))) 2 rfl (.refl _)), ?_⟩
         intro a hA
         refine any_tk (v := .agg #[.bool ((rb (P * u).num)), .slice ro142 ((words (P * u).num.natAbs).length) rc143, .slice ro147 ((words (P * u).den).length) rc148]) hA 28 rfl rfl rfl rfl hP (hS.partD (.cons _ (.cons_cons _ (.cons_cons _ .slnil))) 2 rfl (.refl _)) (fun w1 hS => d_build rfl (fun w => by kernel_rfl)) ?_
         intro a hA
         refine any_tk (v := .pointer (some ⟨g31, 0, none⟩)) hA 29 rfl rfl rfl rfl hP (hS.partD (.cons _ (.cons_cons _ (.cons_cons _ .slnil))) 2 rfl (.refl _)) (fun w1 hS => d_field SmG_fld_26_0 rfl rfl) ?_
         intro a hA
         refine any_one (by kernel_rfl) (op_store (us := [.bool ((rb (P * u).num)), .slice ro142 ((words (P * u).num.natAbs).length) rc143, .slice ro147 ((words (P * u).den).length) rc148, .bool false, .slice p27_3 0 p27_c3, .slice p27_4 1 p27_c4]) hA hS 30 rfl rfl rfl (sets_store rfl rfl rfl (by kernel_rfl) hS 0 rfl rfl rfl) 0 rfl rfl rfl rfl ?_)
         intro w152 hS
         refine ⟨(hS.partD (.cons _ (.cons_cons _ (.cons_cons _ .slnil))) 2 rfl (.refl _)), ?_⟩
         refine any_end (by kernel_rfl) ?_
         refine hJ66 _ _ ⟨ro142, rc143, ro147, rc148, hA.keep _ ⟨rfl, rfl, rfl, rfl, rfl, rfl, rfl, rfl, rfl, rfl, rfl, rfl, rfl, rfl, rfl, rfl, rfl, rfl, rfl, rfl, rfl, rfl, rfl, rfl, rfl, rfl, rfl, rfl, trivial⟩, (St.pickRL hS ⟨⟨0, rfl⟩, ⟨⟨1, rfl⟩, ⟨⟨2, rfl⟩, ⟨⟨3, rfl⟩, ⟨⟨4, rfl⟩, ⟨⟨5, rfl⟩, ⟨⟨6, rfl⟩, ⟨⟨7, rfl⟩, ⟨⟨8, rfl⟩, ⟨⟨9, rfl⟩, ⟨⟨10, rfl⟩, ⟨⟨11, rfl⟩, trivial⟩⟩⟩⟩⟩⟩⟩⟩⟩⟩⟩⟩ [0, 1, 2] rfl (by decide)), ho149.nocap, ho149.caps, ho144.nocap, ho144.caps⟩
       · refine op_do hA 16 rfl rfl rfl rfl (d_load1 hS SmG_is1_22 rfl 0 rfl rfl) (hS.partD (.cons _ (.cons_cons _ (.cons_cons _ .slnil))) 0 rfl (.refl _)) ?_
         intro a hA
         refine any_one (by kernel_rfl) (op_do hA 2 rfl rfl rfl rfl (d_load1 hS SmG_is1_4 rfl 0 rfl rfl) (hS.partD (.cons _ (.cons_cons _ (.cons_cons _ .slnil))) 0 rfl (.refl _)) ?_)
         intro a hA
         refine any_tk (v := .bool false) hA 6 rfl rfl rfl rfl hP (hS.partD (.cons _ (.cons_cons _ (.cons_cons _ .slnil))) 0 rfl (.refl _)) (fun w1 hS => d_bin rfl rfl (fun w => ((bin_neqB Tryz.underlying4) w).trans (by rw [show (!((rb P.num) == rb u.num)) = false from (by rw [hPs, hsu]; rfl)]))) ?_
         intro a hA
         refine any_tk hA 7 rfl rfl rfl rfl hP (hS.partD (.cons _ (.cons_cons _ (.cons_cons _ .slnil))) 0 rfl (.refl _)) (fun w1 hS => d_move rfl) ?_
         intro a hA
         refine any_skip hA 8 rfl rfl rfl rfl (by kernel_rfl) (by kernel_rfl) (by kernel_rfl) (fun c a w h => hP c a _ _ w h) (hS.partD (.cons _ (.cons_cons _ (.cons_cons _ .slnil))) 0 rfl (.refl _)) ?_
         intro a hA
         refine any_skip hA 9 rfl rfl rfl rfl (by kernel_rfl) (by kernel_rfl) (by kernel_rfl) (fun c a w h => hP c a _ _ w h) (hS.partD (.cons _ (.cons_cons _ (.cons_cons _ .slnil))) 0 rfl (.refl _)) ?_
         intro a hA
         refine any_skip hA 10 rfl rfl rfl rfl (by kernel_rfl) (by kernel_rfl) (by kernel_rfl) (fun c a w h => hP c a _ _ w h) (hS.partD (.cons _ (.cons_cons _ (.cons_cons _ .slnil))) 0 rfl (.refl _)) ?_
         intro a hA
         refine any_skip hA 11 rfl rfl rfl rfl (by kernel_rfl) (by kernel_rfl) (by kernel_rfl) (fun c a w h => hP c a _ _ w h) (hS.partD (.cons _ (.cons_cons _ (.cons_cons _ .slnil))) 0 rfl (.refl _)) ?_
         intro a hA
         refine any_skip hA 12 rfl rfl rfl rfl (by kernel_rfl) (by kernel_rfl) (by kernel_rfl) (fun c a w h => hP c a _ _ w h) (hS.partD (.cons _ (.cons_cons _ (.cons_cons _ .slnil))) 0 rfl (.refl _)) ?_
         intro a hA
         refine any_tk (v := .bool ((rb (P * u).num))) hA 13 rfl rfl rfl rfl hP (hS.partD (.cons _ (.cons_cons _ (.cons_cons _ .slnil))) 0 rfl (.refl _)) (fun w1 hS => d_pick rfl rfl rfl (by rw [hsg9]; rfl)) ?_
         intro a hA
         refine any_one (by kernel_rfl) (op_call hA 20 rfl rfl rfl rfl (enters_func  rfl rfl (fun w => by kernel_rfl)) (rtimes_as hn9 _ _ (hS.rd 0 rfl) (hS.rd 9 rfl) (by omega) (by omega)) ?_)
         rintro _ w157 ⟨ro153, rc154, rfl, ho155, hb156⟩
         replace hS := hS.call hb156
         replace hS := hS.addR ho155.rd
         refine ⟨_, rfl, (hS.partD (.cons _ (.cons_cons _ (.cons_cons _ .slnil))) 1 rfl (.refl _)), ?_⟩
         intro a hA
         refine any_one (by kernel_rfl) (op_call hA 27 rfl rfl rfl rfl (enters_func  rfl rfl (fun w => by kernel_rfl)) (rtimes_as hd9 _ _ (hS.rd 2 rfl) (hS.rd 9 rfl) (by omega) (by omega)) ?_)
         rintro _ w162 ⟨ro158, rc159, rfl, ho160, hb161⟩
         replace hS := hS.call hb161
         replace hS := hS.addR ho160.rd
         refine ⟨_, rfl, (hS.partD (.cons _ (.cons_cons _ (.cons_cons _ .slnil))) 2 rfl (.refl _)), ?_⟩
         intro a hA
         refine any_tk (v := .agg #[.bool ((rb (P * u).num)), .slice ro153 ((words (P * u).num.natAbs).length) rc154, .slice ro158 ((words (P * u).den).length) rc159]) hA 28 rfl rfl rfl rfl hP (hS.partD (.cons _ (.cons_cons _ (.cons_cons _ .slnil))) 2 rfl (.refl _)) (fun w1 hS => d_build rfl (fun w => by kernel_rfl)) ?_
         intro a hA
         refine any_tk (v := .pointer (some ⟨g31, 0, none⟩)) hA 29 rfl rfl rfl rfl hP (hS.partD (.cons _ (.cons_cons _ (.cons_cons _ .slnil))) 2 rfl (.refl _)) (fun w1 hS => d_field SmG_fld_26_0 rfl rfl) ?_
         intro a hA
         refine any_one (by kernel_rfl) (op_store (us := [.bool ((rb (P * u).num)), .slice ro153 ((words (P * u).num.natAbs).length) rc154, .slice ro158 ((words (P * u).den).length) rc159, .bool false, .slice p27_3 0 p27_c3, .slice p27_4 1 p27_c4]) hA hS 30 rfl rfl rfl (sets_store rfl rfl rfl (by kernel_rfl) hS 0 rfl rfl rfl) 0 rfl rfl rfl rfl ?_)
         intro w163 hS
         refine ⟨(hS.partD (.cons _ (.cons_cons _ (.cons_cons _ .slnil))) 2 rfl (.refl _)), ?_⟩
         refine any_end (by kernel_rfl) ?_
         refine hJ66 _ _ ⟨ro153, rc154, ro158, rc159, hA.keep _ ⟨rfl, rfl, rfl, rfl, rfl, rfl, rfl, rfl, rfl, rfl, rfl, rfl, rfl, rfl, rfl, rfl, rfl, rfl, rfl, rfl, rfl, rfl, rfl, rfl, rfl, rfl, rfl, rfl, trivial⟩, (St.pickRL hS ⟨⟨0, rfl⟩, ⟨⟨1, rfl⟩, ⟨⟨2, rfl⟩, ⟨⟨3, rfl⟩, ⟨⟨4, rfl⟩, ⟨⟨5, rfl⟩, ⟨⟨6, rfl⟩, ⟨⟨7, rfl⟩, ⟨⟨8, rfl⟩, ⟨⟨9, rfl⟩, ⟨⟨10, rfl⟩, ⟨⟨11, rfl⟩, trivial⟩⟩⟩⟩⟩⟩⟩⟩⟩⟩⟩⟩ [0, 1, 2] rfl (by decide)), ho160.nocap, ho160.caps, ho155.nocap, ho155.caps⟩
   · have hb41' := of_decide_eq_false hb41
     refine seq_do (v := .bool false) hA rfl rfl rfl (d_bin rfl rfl (fun w => (bin_lss w).trans (by rw [hb41]))) ?_
     intro a hA
     refine seq_end ?_
     refine hK40 _ _ ?_
     refine wp_cond_false (hA.ev rfl) ?_
     refine wp_exit ?_
     refine hK34 _ _ ?_
     refine wp_seq_k (fun K164 hK164 => ?_)
     refine wp_seq_k (fun K165 hK165 => ?_)
     refine wp_region_lit ?_
     refine seq_do hA rfl rfl rfl (d_move rfl) ?_
     intro a hA
     refine seq_do (v := .bool false) hA rfl rfl rfl (d_bin rfl rfl (fun w => (bin_lss w).trans (by rw [show (decide (((N : Nat) : Int) < 0)) = false from (decide_eq_false (by omega))]))) ?_
     intro a hA
     refine seq_end ?_
     refine hK165 _ _ ?_
     refine wp_cond_false (hA.ev rfl) ?_
     refine wp_skip ?_
     refine hK164 _ _ ?_
     refine wp_seq_k (fun K166 hK166 => ?_)
     refine wp_region_lit ?_
     refine seq_do hA rfl rfl rfl (d_loadS hS SmG_isS_26 rfl 0 rfl (cs := [.bool ((rb P.num)), .slice po1 ((words P.num.natAbs).length) poc1, .slice po2 ((words P.den).length) poc2, .bool false, .slice p27_3 0 p27_c3, .slice p27_4 1 p27_c4]) rfl rfl) ?_
     intro a hA
     refine seq_call hA rfl rfl rfl (enters_func  rfl rfl (fun w => by kernel_rfl)) (rfit0_any (show Nm _ (Q6.real P) po1 poc1 po2 poc2 p27_3 p27_c3 p27_4 p27_c4 from ⟨⟨(hS.rd 0 rfl), kn1.1, kn1.2⟩, ⟨(hS.rd 1 rfl), kn2.1, kn2.2⟩, ⟨(hS.rd 3 rfl), hn28.s3.nil, hn28.s3.cap⟩, ⟨(hS.rd 2 rfl), hn28.s4.nil, hn28.s4.cap⟩⟩) (LP.mono (by decide))) ?_
     rintro _ w170 ⟨p167_1, p167_c1, p167_2, p167_c2, p167_3, p167_c3, p167_4, p167_c4, rfl, hn168, hb169⟩
     replace hS := hS.call hb169
     replace hS := hS.addR hn168.s1.rd
     replace hS := hS.addR hn168.s2.rd
     replace hS := hS.addR hn168.s3.rd
     replace hS := hS.addR hn168.s4.rd
     refine ⟨_, rfl, ?_⟩
     intro a hA
     refine seq_do (v := .agg #[.bool ((ratS P 0).1.b1), .slice p167_1 (((ratS P 0).1.t1).length) p167_c1, .slice p167_2 (((ratS P 0).1.q1).length) p167_c2, .bool ((ratS P 0).1.b2), .slice p167_3 (((ratS P 0).1.t2).length) p167_c3, .slice p167_4 (((ratS P 0).1.q2).length) p167_c4]) hA rfl rfl rfl (d_extract (vs := [.agg #[.bool ((ratS P 0).1.b1), .slice p167_1 (((ratS P 0).1.t1).length) p167_c1, .slice p167_2 (((ratS P 0).1.q1).length) p167_c2, .bool ((ratS P 0).1.b2), .slice p167_3 (((ratS P 0).1.t2).length) p167_c3, .slice p167_4 (((ratS P 0).1.q2).length) p167_c4], .int .i64 ((ratS P 0).2)]) rfl rfl) ?_
     intro a hA
     refine seq_do (v := .int .i64 ((ratS P 0).2)) hA rfl rfl rfl (d_extract (vs := [.agg #[.bool ((ratS P 0).1.b1), .slice p167_1 (((ratS P 0).1.t1).length) p167_c1, .slice p167_2 (((ratS P 0).1.q1).length) p167_c2, .bool ((ratS P 0).1.b2), .slice p167_3 (((ratS P 0).1.t2).length) p167_c3, .slice p167_4 (((ratS P 0).1.q2).length) p167_c4], .int .i64 ((ratS P 0).2)]) rfl rfl) ?_
     intro a hA
     refine seq_store (us := [.bool ((ratS P 0).1.b1), .slice p167_1 (((ratS P 0).1.t1).length) p167_c1, .slice p167_2 (((ratS P 0).1.q1).length) p167_c2, .bool ((ratS P 0).1.b2), .slice p167_3 (((ratS P 0).1.t2).length) p167_c3, .slice p167_4 (((ratS P 0).1.q2).length) p167_c4]) hA hS rfl rfl (sets_store rfl rfl rfl (by kernel_rfl) hS 1 rfl rfl rfl) 1 rfl rfl rfl rfl ?_
     intro w171 hS
     refine seq_do hA rfl rfl rfl (d_assign rfl) ?_
     intro a hA
     refine seq_end ?_
     refine hK166 _ _ ?_
     refine wp_ret ?_
     refine hret _ _ ?_
     refine ends (v := .tuple #[.agg #[.bool ((ratS P 0).1.b1), .slice p167_1 (((ratS P 0).1.t1).length) p167_c1, .slice p167_2 (((ratS P 0).1.q1).length) p167_c2, .bool ((ratS P 0).1.b2), .slice p167_3 (((ratS P 0).1.t2).length) p167_c3, .slice p167_4 (((ratS P 0).1.q2).length) p167_c4], .int .i64 ((ratS P 0).2)]) hA rfl (.cons (res_cell hS SmG_isS_26 rfl 1 rfl (cs := [.bool ((ratS P 0).1.b1), .slice p167_1 (((ratS P 0).1.t1).length) p167_c1, .slice p167_2 (((ratS P 0).1.q1).length) p167_c2, .bool ((ratS P 0).1.b2), .slice p167_3 (((ratS P 0).1.t2).length) p167_c3, .slice p167_4 (((ratS P 0).1.q2).length) p167_c4]) rfl rfl) (.cons (res_tmp rfl) .nil)) rfl ?_
     obtain rfl : i = N := by omega
     rw [exptQ_pos hu hv h1 h2, if_pos hB9, hp9]
     show AnsN w (ratS _ _) _ _
     exact ⟨p167_1, p167_c1, p167_2, p167_c2, p167_3, p167_c3, p167_4, p167_c4, rfl, ⟨⟨(hS.rd 3 rfl), hn168.s1.nil, hn168.s1.cap⟩, ⟨(hS.rd 2 rfl), hn168.s2.nil, hn168.s2.cap⟩, ⟨(hS.rd 1 rfl), hn168.s3.nil, hn168.s3.cap⟩, ⟨(hS.rd 0 rfl), hn168.s4.nil, hn168.s4.cap⟩⟩, hS.bel⟩
 refine wp_region_lit ?_
 refine seq_do hA rfl rfl rfl (d_loadS hS SmG_isS_26 rfl 1 rfl (cs := [.bool (rb u.num), .slice a1 ((words u.num.natAbs).length) ac1, .slice a2 ((words u.den).length) ac2, .bool (rb v.num), .slice a3 ((words v.num.natAbs).length) ac3, .slice a4 ((words v.den).length) ac4]) rfl rfl) ?_
 intro a hA
 rcases Bool.eq_false_or_eq_true (decide (u = 0 ∧ v = 0)) with hb172 | hb172
 · have hb172' := of_decide_eq_true hb172
   refine seq_call hA rfl rfl rfl (enters_func  rfl rfl (fun w => by kernel_rfl)) (risZero_any (show Nm _ (Q6.rat u v) a1 ac1 a2 ac2 a3 ac3 a4 ac4 from ⟨⟨(hS.rd 3 rfl), ha.s1.nil, ha.s1.cap⟩, ⟨(hS.rd 2 rfl), ha.s2.nil, ha.s2.cap⟩, ⟨(hS.rd 1 rfl), ha.s3.nil, ha.s3.cap⟩, ⟨(hS.rd 0 rfl), ha.s4.nil, ha.s4.cap⟩⟩) hu hv hb172) ?_
   rintro _ w174 ⟨rfl, hb173⟩
   replace hS := hS.call hb173
   refine ⟨_, rfl, ?_⟩
   intro a hA
   refine seq_do hA rfl rfl rfl (d_move rfl) ?_
   intro a hA
   refine seq_do hA rfl rfl rfl (d_move rfl) ?_
   intro a hA
   refine seq_do (v := .bool false) hA rfl rfl rfl (d_bin rfl rfl (fun w => (bin_lss w).trans (by rw [show (decide (((N : Nat) : Int) < 0)) = false from (decide_eq_false (by omega))]))) ?_
   intro a hA
   refine seq_do (v := .bool false) hA rfl rfl rfl (d_pick rfl rfl rfl rfl) ?_
   intro a hA
   refine seq_end ?_
   exact hJ21 _ _ ⟨hA.keep _ ⟨rfl, rfl, rfl, rfl, rfl, rfl, rfl, rfl, rfl, rfl, rfl, rfl, rfl, rfl, rfl, rfl, rfl, trivial⟩, hS⟩
 · have hb172' := of_decide_eq_false hb172
   refine seq_call hA rfl rfl rfl (enters_func  rfl rfl (fun w => by kernel_rfl)) (risZero_any (show Nm _ (Q6.rat u v) a1 ac1 a2 ac2 a3 ac3 a4 ac4 from ⟨⟨(hS.rd 3 rfl), ha.s1.nil, ha.s1.cap⟩, ⟨(hS.rd 2 rfl), ha.s2.nil, ha.s2.cap⟩, ⟨(hS.rd 1 rfl), ha.s3.nil, ha.s3.cap⟩, ⟨(hS.rd 0 rfl), ha.s4.nil, ha.s4.cap⟩⟩) hu hv hb172) ?_
   rintro _ w176 ⟨rfl, hb175⟩
   replace hS := hS.call hb175
   refine ⟨_, rfl, ?_⟩
   intro a hA
   refine seq_do hA rfl rfl rfl (d_move rfl) ?_
   intro a hA
   refine seq_skip hA rfl rfl rfl ?_
   intro a hA
   refine seq_skip hA rfl rfl rfl ?_
   intro a hA
   refine seq_do (v := .bool false) hA rfl rfl rfl (d_pick rfl rfl rfl rfl) ?_
   intro a hA
   refine seq_end ?_
   exact hJ21 _ _ ⟨hA.keep _ ⟨rfl, rfl, rfl, rfl, rfl, rfl, rfl, rfl, rfl, rfl, rfl, rfl, rfl, rfl, rfl, rfl, rfl, trivial⟩, hS⟩
set_option maxHeartbeats 2000000 in
theorem rexRfM_any {w : World} {u v : Rat} {a1 a2 a3 a4 : Option Addr} {ac1 ac2 ac3 ac4 : Nat} (ha : Nm w (Q6.rat u v) a1 ac1 a2 ac2 a3 ac3 a4 ac4) (hu : fitR u) (hv : fitR v) {N : Nat} (h1 : 1 ≤ N) (h2 : N ≤ 1024) (hz : ¬ (u = 0 ∧ v = 0)) (k2 : decide ((Q6.rat u v).t2.length = 0) = true) (hv0 : v = 0) (hsu : rb u.num = false) (LU : LenR 512 u) {i1 i2 : Rat} (j0 : ivR (pwR u v N) = (i1, i2)) (LI : pwB u v N = true → LenR 9000 i1 ∧ LenR 9000 i2) : Calls Tryz.prog 31 #[numV (Q6.rat u v) a1 ac1 a2 ac2 a3 ac3 a4 ac4, .int .i64 (-((N : Nat) : Int))] w (AnsN w (exptQ (Q6.rat u v) (-((N : Nat) : Int)))) := by
 have hS : St w w [] [(a4, words v.den), (a3, words v.num.natAbs), (a2, words u.den), (a1, words u.num.natAbs)] [] := ((((St.start w).addR ha.s1.rd).addR ha.s2.rd).addR ha.s3.rd).addR ha.s4.rd
 refine walk_of (l := [(0, .agg #[.bool (rb u.num), .slice a1 ((words u.num.natAbs).length) ac1, .slice a2 ((words u.den).length) ac2, .bool (rb v.num), .slice a3 ((words v.num.natAbs).length) ac3, .slice a4 ((words v.den).length) ac4]), (1, .int .i64 (-((N : Nat) : Int)))]) Tryz.func31 rfl Tryz.ntmps31 rfl rfl ?_
 intro Q hret hnorm hP a hA
 refine wp_seq_k (fun K1 hK1 => ?_)
 refine wp_region_lit ?_
 refine seq_new hA hS rfl rfl rfl (fun g => .pointer (some ⟨g, 0, none⟩)) (d_box rfl rfl) rfl ?_
 intro g2 w3 hS a hA
 refine seq_new (vs := [.bool false, .slice none 0 0, .slice none 0 0, .bool false, .slice none 0 0, .slice none 0 0]) (t := 26) hA hS rfl rfl rfl (fun g => .pointer (some ⟨g, 0, none⟩)) (d_alloc (z := .agg #[.bool false, .slice none 0 0, .slice none 0 0, .bool false, .slice none 0 0, .slice none 0 0]) (by kernel_rfl) rfl) rfl ?_
 intro g4 w5 hS a hA
 refine seq_do hA rfl rfl rfl (d_assign rfl) ?_
 intro a hA
 refine seq_end ?_
 refine hK1 _ _ ?_
 refine wp_seq_k (fun K6 hK6 => ?_)
 refine wp_seq_k (fun K7 hK7 => ?_)
 refine wp_region_lit ?_
 refine seq_do hA rfl rfl rfl (d_loadS hS SmG_isS_26 rfl 1 rfl (cs := [.bool (rb u.num), .slice a1 ((words u.num.natAbs).length) ac1, .slice a2 ((words u.den).length) ac2, .bool (rb v.num), .slice a3 ((words v.num.natAbs).length) ac3, .slice a4 ((words v.den).length) ac4]) rfl rfl) ?_
 intro a hA
 refine seq_call hA rfl rfl rfl (enters_func  rfl rfl (fun w => by kernel_rfl)) (rsoundQ_any (show Nm _ (Q6.rat u v) a1 ac1 a2 ac2 a3 ac3 a4 ac4 from ⟨⟨(hS.rd 3 rfl), ha.s1.nil, ha.s1.cap⟩, ⟨(hS.rd 2 rfl), ha.s2.nil, ha.s2.cap⟩, ⟨(hS.rd 1 rfl), ha.s3.nil, ha.s3.cap⟩, ⟨(hS.rd 0 rfl), ha.s4.nil, ha.s4.cap⟩⟩) (lenQ_rat hu hv) (soundQ_rat hu hv)) ?_
 rintro _ w9 ⟨rfl, hb8⟩
 replace hS := hS.call hb8
 refine ⟨_, rfl, ?_⟩
 intro a hA
 refine seq_do (v := .bool false) hA rfl rfl rfl (d_un rfl un_not) ?_
 intro a hA
 refine seq_end ?_
 refine hK7 _ _ ?_
 refine wp_cond_false (hA.ev rfl) ?_
 refine wp_skip ?_
 refine hK6 _ _ ?_
 refine wp_seq_k (fun K10 hK10 => ?_)
 refine wp_seq_k (fun K11 hK11 => ?_)
 refine wp_region_lit ?_
 refine seq_do hA rfl rfl rfl (d_move rfl) ?_
 intro a hA
 refine seq_do (v := .bool false) hA rfl rfl rfl (d_bin rfl rfl (fun w => (bin_lss w).trans (by rw [show (decide (-((N : Nat) : Int) < -1024)) = false from (decide_eq_false (by omega))]))) ?_
 intro a hA
 refine seq_do hA rfl rfl rfl (d_move rfl) ?_
 intro a hA
 refine seq_do hA rfl rfl rfl (d_move rfl) ?_
 intro a hA
 refine seq_do (v := .bool false) hA rfl rfl rfl (d_bin rfl rfl (fun w => (bin_gtr w).trans (by rw [show (decide (1024 < -((N : Nat) : Int))) = false from (decide_eq_false (by omega))]))) ?_
 intro a hA
 refine seq_do (v := .bool false) hA rfl rfl rfl (d_pick rfl rfl rfl rfl) ?_
 intro a hA
 refine seq_end ?_
 refine hK11 _ _ ?_
 refine wp_cond_false (hA.ev rfl) ?_
 refine wp_skip ?_
 refine hK10 _ _ ?_
 refine wp_seq_k (fun K12 hK12 => ?_)
 refine wp_seq_k (fun K13 hK13 => ?_)
 refine wp_region_lit ?_
 refine seq_do hA rfl rfl rfl (d_move rfl) ?_
 intro a hA
 refine seq_do (v := .bool false) hA rfl rfl rfl (d_bin rfl rfl (fun w => (bin_eql w).trans (by rw [show ((-((N : Nat) : Int) == 0)) = false from (beq_eq_false_iff_ne.2 (by omega))]))) ?_
 intro a hA
 refine seq_end ?_
 refine hK13 _ _ ?_
 refine wp_cond_false (hA.ev rfl) ?_
 refine wp_skip ?_
 refine hK12 _ _ ?_
 refine wp_seq_k (fun K14 hK14 => ?_)
 refine wp_seq_k (fun K15 hK15 => ?_)
 refine wp_region_lit ?_
 refine seq_do hA rfl rfl rfl (d_loadS hS SmG_isS_26 rfl 1 rfl (cs := [.bool (rb u.num), .slice a1 ((words u.num.natAbs).length) ac1, .slice a2 ((words u.den).length) ac2, .bool (rb v.num), .slice a3 ((words v.num.natAbs).length) ac3, .slice a4 ((words v.den).length) ac4]) rfl rfl) ?_
 intro a hA
 refine seq_call hA rfl rfl rfl (enters_func  rfl rfl (fun w => by kernel_rfl)) (risZero_any (show Nm _ (Q6.rat u v) a1 ac1 a2 ac2 a3 ac3 a4 ac4 from ⟨⟨(hS.rd 3 rfl), ha.s1.nil, ha.s1.cap⟩, ⟨(hS.rd 2 rfl), ha.s2.nil, ha.s2.cap⟩, ⟨(hS.rd 1 rfl), ha.s3.nil, ha.s3.cap⟩, ⟨(hS.rd 0 rfl), ha.s4.nil, ha.s4.cap⟩⟩) hu hv (decide_eq_false hz)) ?_
 rintro _ w17 ⟨rfl, hb16⟩
 replace hS := hS.call hb16
 refine ⟨_, rfl, ?_⟩
 intro a hA
 refine seq_do hA rfl rfl rfl (d_move rfl) ?_
 intro a hA
 refine seq_skip hA rfl rfl rfl ?_
 intro a hA
 refine seq_skip hA rfl rfl rfl ?_
 intro a hA
 refine seq_do (v := .bool false) hA rfl rfl rfl (d_pick rfl rfl rfl rfl) ?_
 intro a hA
 refine seq_end ?_
 refine hK15 _ _ ?_
 refine wp_cond_false (hA.ev rfl) ?_
 refine wp_skip ?_
 refine hK14 _ _ ?_
 refine wp_seq_k (fun K18 hK18 => ?_)
 refine wp_region_lit ?_
 refine seq_do hA rfl rfl rfl (d_move rfl) ?_
 intro a hA
 refine seq_do hA rfl rfl rfl (d_assign rfl) ?_
 intro a hA
 refine seq_end ?_
 refine hK18 _ _ ?_
 refine wp_seq_k (fun K19 hK19 => ?_)
 refine wp_seq_k (fun K20 hK20 => ?_)
 refine wp_region_lit ?_
 refine seq_do hA rfl rfl rfl (d_move rfl) ?_
 intro a hA
 refine seq_do (v := .bool true) hA rfl rfl rfl (d_bin rfl rfl (fun w => (bin_lss w).trans (by rw [show (decide (-((N : Nat) : Int) < 0)) = true from (decide_eq_true (by omega))]))) ?_
 intro a hA
 refine seq_end ?_
 refine hK20 _ _ ?_
 refine wp_cond_true (hA.ev rfl) ?_
 refine wp_region_lit ?_
 refine seq_do hA rfl rfl rfl (d_move rfl) ?_
 intro a hA
 refine seq_do (v := .int .i64 (((N : Nat) : Int))) hA rfl rfl rfl (d_un rfl (ar_neg (show IntKind.i64.wrap (-(-((N : Nat) : Int))) = ((N : Nat) : Int) from (in_i64 (by omega) (by omega)).trans (by omega)))) ?_
 intro a hA
 refine seq_do hA rfl rfl rfl (d_assign rfl) ?_
 intro a hA
 refine seq_end ?_
 refine hK19 _ _ ?_
 refine wp_seq_k (fun K21 hK21 => ?_)
 refine wp_region_lit ?_
 refine seq_call hA rfl rfl rfl (enters_func  rfl rfl (fun w => by kernel_rfl)) (rint1_any) ?_
 rintro _ w25 ⟨p22_1, p22_c1, p22_2, p22_c2, p22_3, p22_c3, p22_4, p22_c4, rfl, hn23, hb24⟩
 replace hS := hS.call hb24
 replace hS := hS.addR hn23.s1.rd
 replace hS := hS.addR hn23.s2.rd
 replace hS := hS.addR hn23.s3.rd
 replace hS := hS.addR hn23.s4.rd
 refine ⟨_, rfl, ?_⟩
 intro a hA
 refine seq_new (vs := [.bool false, .slice none 0 0, .slice none 0 0, .bool false, .slice none 0 0, .slice none 0 0]) (t := 26) hA hS rfl rfl rfl (fun g => .pointer (some ⟨g, 0, none⟩)) (d_alloc (z := .agg #[.bool false, .slice none 0 0, .slice none 0 0, .bool false, .slice none 0 0, .slice none 0 0]) (by kernel_rfl) rfl) rfl ?_
 intro g26 w27 hS a hA
 refine seq_store (us := [.bool ((rb (1 : Rat).num)), .slice p22_1 ((words (1 : Rat).num.natAbs).length) p22_c1, .slice p22_2 ((words (1 : Rat).den).length) p22_c2, .bool false, .slice p22_3 0 p22_c3, .slice p22_4 1 p22_c4]) hA hS rfl rfl (sets_store rfl rfl rfl (by kernel_rfl) hS 0 rfl rfl rfl) 0 rfl rfl rfl rfl ?_
 intro w28 hS
 refine seq_end ?_
 refine hK21 _ _ ?_
 refine wp_seq_k (fun K29 hK29 => ?_)
 refine wp_seq_k (fun K30 hK30 => ?_)
 refine wp_region_lit ?_
 refine seq_do hA rfl rfl rfl (d_assign rfl) ?_
 intro a hA
 refine seq_end ?_
 refine hK30 _ _ ?_
 refine wp_block ?_
 refine wp_loop_n (fun m a w1 => ∃ (i : Nat) (P : Rat) (po1 : Option Addr) (poc1 : Nat) (po2 : Option Addr) (poc2 : Nat), m = N - i ∧ (i ≤ N ∧ pwR u v i = (P, 0) ∧ pwB u v i = true ∧ LenR 512 P ∧ P = u ^ i ∧ rb P.num = false ∧ Ncap po1 poc1 (words P.num.natAbs) ∧ Ncap po2 poc2 (words P.den)) ∧ Sl a 87 [(0, .agg #[.bool (rb u.num), .slice a1 ((words u.num.natAbs).length) ac1, .slice a2 ((words u.den).length) ac2, .bool (rb v.num), .slice a3 ((words v.num.natAbs).length) ac3, .slice a4 ((words v.den).length) ac4]), (1, .int .i64 (-((N : Nat) : Int))), (2, .pointer (some ⟨g2, 0, none⟩)), (4, .pointer (some ⟨g4, 0, none⟩)), (6, .int .i64 (((N : Nat) : Int))), (7, .pointer (some ⟨g26, 0, none⟩)), (8, .int .i64 (((i : Nat) : Int))), (9, .agg #[.bool (rb u.num), .slice a1 ((words u.num.natAbs).length) ac1, .slice a2 ((words u.den).length) ac2, .bool (rb v.num), .slice a3 ((words v.num.natAbs).length) ac3, .slice a4 ((words v.den).length) ac4]), (10, .bool true), (11, .bool false), (13, .int .i64 (-((N : Nat) : Int))), (14, .bool false), (15, .bool false), (16, .int .i64 (-((N : Nat) : Int))), (17, .bool false), (18, .bool false), (20, .int .i64 (-((N : Nat) : Int))), (21, .bool false), (23, .agg #[.bool (rb u.num), .slice a1 ((words u.num.natAbs).length) ac1, .slice a2 ((words u.den).length) ac2, .bool (rb v.num), .slice a3 ((words v.num.natAbs).length) ac3, .slice a4 ((words v.den).length) ac4]), (24, .bool false), (25, .bool false), (28, .bool false), (30, .int .i64 (-((N : Nat) : Int))), (31, .int .i64 (-((N : Nat) : Int))), (32, .bool true), (33, .int .i64 (-((N : Nat) : Int))), (34, .int .i64 (((N : Nat) : Int))), (35, .agg #[.bool ((rb (1 : Rat).num)), .slice p22_1 ((words (1 : Rat).num.natAbs).length) p22_c1, .slice p22_2 ((words (1 : Rat).den).length) p22_c2, .bool false, .slice p22_3 0 p22_c3, .slice p22_4 1 p22_c4])] ∧ St w w1 [(g26, [.bool ((rb P.num)), .slice po1 ((words P.num.natAbs).length) poc1, .slice po2 ((words P.den).length) poc2, .bool false, .slice p22_3 0 p22_c3, .slice p22_4 1 p22_c4]), (g4, [.bool false, .slice none 0 0, .slice none 0 0, .bool false, .slice none 0 0, .slice none 0 0]), (g2, [.bool (rb u.num), .slice a1 ((words u.num.natAbs).length) ac1, .slice a2 ((words u.den).length) ac2, .bool (rb v.num), .slice a3 ((words v.num.natAbs).length) ac3, .slice a4 ((words v.den).length) ac4])] [(po1, words P.num.natAbs), (po2, words P.den), (p22_4, [1]), (p22_3, []), (p22_2, words (1 : Rat).den), (p22_1, words (1 : Rat).num.natAbs), (a4, words v.den), (a3, words v.num.natAbs), (a2, words u.den), (a1, words u.num.natAbs)] []) _ ⟨0, 1, p22_1, p22_c1, p22_2, p22_c2, rfl, ⟨by omega, rfl, rfl, len_one, (Rat.pow_zero u).symm, rfl, ⟨hn23.s1.nil, hn23.s1.cap⟩, ⟨hn23.s2.nil, hn23.s2.cap⟩⟩, hA.keep _ ⟨rfl, rfl, rfl, rfl, rfl, rfl, rfl, rfl, rfl, rfl, rfl, rfl, rfl, rfl, rfl, rfl, rfl, rfl, rfl, rfl, rfl, rfl, rfl, rfl, rfl, rfl, rfl, rfl, trivial⟩, ((hS.pickR [(p22_1, words (1 : Rat).num.natAbs), (p22_2, words (1 : Rat).den), (p22_4, [1]), (p22_3, []), (p22_2, words (1 : Rat).den), (p22_1, words (1 : Rat).num.natAbs), (a4, words v.den), (a3, words v.num.natAbs), (a2, words u.den), (a1, words u.num.natAbs)] ⟨⟨3, rfl⟩, ⟨⟨2, rfl⟩, ⟨⟨0, rfl⟩, ⟨⟨1, rfl⟩, ⟨⟨2, rfl⟩, ⟨⟨3, rfl⟩, ⟨⟨4, rfl⟩, ⟨⟨5, rfl⟩, ⟨⟨6, rfl⟩, ⟨⟨7, rfl⟩, trivial⟩⟩⟩⟩⟩⟩⟩⟩⟩⟩).subL _ (.refl _))⟩ ?_
 clear hS hA
 rintro m a w31 ⟨i, P, po1, poc1, po2, poc2, rfl, hinv33, hA, hS⟩ K32 hK32
 obtain ⟨hi9, hp9, hB9, LP, hPw, hPs, kn1, kn2⟩ := hinv33
 have hq9 := rpow_num hPw
 have hn9 : P.num.natAbs * u.num.natAbs = (P * u).num.natAbs := by rw [hq9.1, Int.natAbs_mul]
 have hd9 : P.den * u.den = (P * u).den := hq9.2.symm
 have l9a := LP.1
 have l9b := LP.2
 have l9c := LU.1
 have l9d := LU.2
 have LPu : LenR 9000 (P * u) := (lenR_mul LP LU).mono (by decide)
 have hs9 : pwR u v (i + 1) = (P * u, 0) := by
   show ((pwR u v i).1 * u - (pwR u v i).2 * v, (pwR u v i).1 * v + (pwR u v i).2 * u) = (P * u, 0)
   rw [hp9, hv0]
   congr 1 <;> grind
 have hPu : P * u = u ^ (i + 1) := by rw [hPw, Rat.pow_succ]
 have hsg9 : rb (P * u).num = false := by rw [hq9.1]; exact rb_nn hPs hsu
 refine wp_seq_k (fun K34 hK34 => ?_)
 refine wp_seq_k (fun K35 hK35 => ?_)
 refine wp_region_lit ?_
 refine seq_do hA rfl rfl rfl (d_move rfl) ?_
 intro a hA
 refine seq_do hA rfl rfl rfl (d_move rfl) ?_
 intro a hA
 rcases Bool.eq_false_or_eq_true (decide (((i : Nat) : Int) < ((N : Nat) : Int))) with hb36 | hb36
 · have hb36' := of_decide_eq_true hb36
   refine seq_do (v := .bool true) hA rfl rfl rfl (d_bin rfl rfl (fun w => (bin_lss w).trans (by rw [hb36]))) ?_
   intro a hA
   refine seq_end ?_
   refine hK35 _ _ ?_
   refine wp_cond_true (hA.ev rfl) ?_
   refine wp_skip ?_
   refine hK34 _ _ ?_
   refine wp_seq_k (fun K37 hK37 => ?_)
   refine wp_block ?_
   refine wp_seq_k (fun K38 hK38 => ?_)
   refine wp_seq_k (fun K39 hK39 => ?_)
   refine wp_region_lit ?_
   refine seq_do hA rfl rfl rfl (d_loadS hS SmG_isS_26 rfl 2 rfl (cs := [.bool (rb u.num), .slice a1 ((words u.num.natAbs).length) ac1, .slice a2 ((words u.den).length) ac2, .bool (rb v.num), .slice a3 ((words v.num.natAbs).length) ac3, .slice a4 ((words v.den).length) ac4]) rfl rfl) ?_
   intro a hA
   refine seq_call hA rfl rfl rfl (enters_func  rfl rfl (fun w => by kernel_rfl)) (rrealQ_any (show Nm _ (Q6.rat u v) a1 ac1 a2 ac2 a3 ac3 a4 ac4 from ⟨⟨(hS.rd 9 rfl), ha.s1.nil, ha.s1.cap⟩, ⟨(hS.rd 8 rfl), ha.s2.nil, ha.s2.cap⟩, ⟨(hS.rd 7 rfl), ha.s3.nil, ha.s3.cap⟩, ⟨(hS.rd 6 rfl), ha.s4.nil, ha.s4.cap⟩⟩) (lenQ_rat hu hv) k2) ?_
   rintro _ w41 ⟨rfl, hb40⟩
   replace hS := hS.call hb40
   refine ⟨_, rfl, ?_⟩
   intro a hA
   refine seq_end ?_
   refine hK39 _ _ ?_
   refine wp_cond_true (hA.ev rfl) ?_
   have hJ61 : ∀ a w1, (∃ (J53 : Option Addr) (J54 : Nat) (J55 : Option Addr) (J56 : Nat), Sl a 87 [(0, .agg #[.bool (rb u.num), .slice a1 ((words u.num.natAbs).length) ac1, .slice a2 ((words u.den).length) ac2, .bool (rb v.num), .slice a3 ((words v.num.natAbs).length) ac3, .slice a4 ((words v.den).length) ac4]), (1, .int .i64 (-((N : Nat) : Int))), (2, .pointer (some ⟨g2, 0, none⟩)), (4, .pointer (some ⟨g4, 0, none⟩)), (6, .int .i64 (((N : Nat) : Int))), (7, .pointer (some ⟨g26, 0, none⟩)), (8, .int .i64 (((i : Nat) : Int))), (9, .agg #[.bool (rb u.num), .slice a1 ((words u.num.natAbs).length) ac1, .slice a2 ((words u.den).length) ac2, .bool (rb v.num), .slice a3 ((words v.num.natAbs).length) ac3, .slice a4 ((words v.den).length) ac4]), (10, .bool true), (11, .bool false), (13, .int .i64 (-((N : Nat) : Int))), (14, .bool false), (15, .bool false), (16, .int .i64 (-((N : Nat) : Int))), (17, .bool false), (18, .bool false), (20, .int .i64 (-((N : Nat) : Int))), (21, .bool false), (23, .agg #[.bool (rb u.num), .slice a1 ((words u.num.natAbs).length) ac1, .slice a2 ((words u.den).length) ac2, .bool (rb v.num), .slice a3 ((words v.num.natAbs).length) ac3, .slice a4 ((words v.den).length) ac4]), (24, .bool false), (25, .bool false), (28, .bool false), (30, .int .i64 (-((N : Nat) : Int))), (31, .int .i64 (-((N : Nat) : Int))), (32, .bool true), (33, .int .i64 (-((N : Nat) : Int))), (34, .int .i64 (((N : Nat) : Int))), (35, .agg #[.bool ((rb (1 : Rat).num)), .slice p22_1 ((words (1 : Rat).num.natAbs).length) p22_c1, .slice p22_2 ((words (1 : Rat).den).length) p22_c2, .bool false, .slice p22_3 0 p22_c3, .slice p22_4 1 p22_c4]), (36, .int .i64 (((i : Nat) : Int))), (37, .int .i64 (((N : Nat) : Int))), (38, .bool true), (41, .agg #[.bool (rb u.num), .slice a1 ((words u.num.natAbs).length) ac1, .slice a2 ((words u.den).length) ac2, .bool (rb v.num), .slice a3 ((words v.num.natAbs).length) ac3, .slice a4 ((words v.den).length) ac4]), (42, .bool true)] ∧ St w w1 [(g26, [.bool ((rb (P * u).num)), .slice J53 ((words (P * u).num.natAbs).length) J54, .slice J55 ((words (P * u).den).length) J56, .bool false, .slice p22_3 0 p22_c3, .slice p22_4 1 p22_c4]), (g4, [.bool false, .slice none 0 0, .slice none 0 0, .bool false, .slice none 0 0, .slice none 0 0]), (g2, [.bool (rb u.num), .slice a1 ((words u.num.natAbs).length) ac1, .slice a2 ((words u.den).length) ac2, .bool (rb v.num), .slice a3 ((words v.num.natAbs).length) ac3, .slice a4 ((words v.den).length) ac4])] [(J55, words (P * u).den), (J53, words (P * u).num.natAbs), (po1, words P.num.natAbs), (po2, words P.den), (p22_4, [1]), (p22_3, []), (p22_2, words (1 : Rat).den), (p22_1, words (1 : Rat).num.natAbs), (a4, words v.den), (a3, words v.num.natAbs), (a2, words u.den), (a1, words u.num.natAbs)] [] ∧ (J55 = none → J56 = 0) ∧ (words (P * u).den : List Nat).length ≤ J56 ∧ (J53 = none → J54 = 0) ∧ (words (P * u).num.natAbs : List Nat).length ≤ J54) → K38 a w1 := by
     clear hA hS
     rintro a w62 ⟨J53, J54, J55, J56, hA, hS, hn57, hc58, hn59, hc60⟩
     refine hK38 _ _ ?_
     refine wp_seq_k (fun K63 hK63 => ?_)
     refine wp_region_lit ?_
     refine seq_do hA rfl rfl rfl (d_loadS hS SmG_isS_26 rfl 0 rfl (cs := [.bool ((rb (P * u).num)), .slice J53 ((words (P * u).num.natAbs).length) J54, .slice J55 ((words (P * u).den).length) J56, .bool false, .slice p22_3 0 p22_c3, .slice p22_4 1 p22_c4]) rfl rfl) ?_
     intro a hA
     rcases Bool.eq_false_or_eq_true (decide (¬ (fitR (P * u) ∧ fitR 0))) with hb64 | hb64
     · have hb64' := of_decide_eq_true hb64
       refine seq_call hA rfl rfl rfl (enters_func  rfl rfl (fun w => by kernel_rfl)) (rlarge0_any (show Nm _ (Q6.real (P * u)) J53 J54 J55 J56 p22_3 p22_c3 p22_4 p22_c4 from ⟨⟨(hS.rd 1 rfl), hn59, hc60⟩, ⟨(hS.rd 0 rfl), hn57, hc58⟩, ⟨(hS.rd 5 rfl), hn23.s3.nil, hn23.s3.cap⟩, ⟨(hS.rd 4 rfl), hn23.s4.nil, hn23.s4.cap⟩⟩) LPu hb64) ?_
       rintro _ w66 ⟨rfl, hb65⟩
       replace hS := hS.call hb65
       refine ⟨_, rfl, ?_⟩
       intro a hA
       refine seq_end ?_
       refine hK63 _ _ ?_
       refine wp_cond_true (hA.ev rfl) ?_
       refine wp_seq_k (fun K67 hK67 => ?_)
       refine wp_region_lit ?_
       refine seq_do (v := .agg #[.bool false, .slice none 0 0, .slice none 0 0, .bool false, .slice none 0 0, .slice none 0 0]) hA rfl rfl rfl (d_build rfl (fun w => by kernel_rfl)) ?_
       intro a hA
       refine seq_store (us := [.bool false, .slice none 0 0, .slice none 0 0, .bool false, .slice none 0 0, .slice none 0 0]) hA hS rfl rfl (sets_store rfl rfl rfl (by kernel_rfl) hS 1 rfl rfl rfl) 1 rfl rfl rfl rfl ?_
       intro w68 hS
       refine seq_do hA rfl rfl rfl (d_assign rfl) ?_
       intro a hA
       refine seq_end ?_
       refine hK67 _ _ ?_
       refine wp_ret ?_
       refine hret _ _ ?_
       refine ends (v := .tuple #[.agg #[.bool false, .slice none 0 0, .slice none 0 0, .bool false, .slice none 0 0, .slice none 0 0], .int .i64 4]) hA rfl (.cons (res_cell hS SmG_isS_26 rfl 1 rfl (cs := [.bool false, .slice none 0 0, .slice none 0 0, .bool false, .slice none 0 0, .slice none 0 0]) rfl rfl) (.cons (res_tmp rfl) .nil)) rfl ?_
       rw [exptQ_neg hu hv (by omega) h2 hz, if_neg (by rw [(pwB_stop (k := i + 1) (by omega) (by have h7 := of_decide_eq_true hb64; rw [hs9]; exact h7))]; decide)]
       exact ⟨none, 0, none, 0, none, 0, none, 0, rfl, ⟨(Sc.none _), (Sc.none _), (Sc.none _), (Sc.none _)⟩, hS.bel⟩
     · have hb64' := of_decide_eq_false hb64
       refine seq_call hA rfl rfl rfl (enters_func  rfl rfl (fun w => by kernel_rfl)) (rlarge0_any (show Nm _ (Q6.real (P * u)) J53 J54 J55 J56 p22_3 p22_c3 p22_4 p22_c4 from ⟨⟨(hS.rd 1 rfl), hn59, hc60⟩, ⟨(hS.rd 0 rfl), hn57, hc58⟩, ⟨(hS.rd 5 rfl), hn23.s3.nil, hn23.s3.cap⟩, ⟨(hS.rd 4 rfl), hn23.s4.nil, hn23.s4.cap⟩⟩) LPu hb64) ?_
       rintro _ w70 ⟨rfl, hb69⟩
       replace hS := hS.call hb69
       refine ⟨_, rfl, ?_⟩
       intro a hA
       refine seq_end ?_
       refine hK63 _ _ ?_
       refine wp_cond_false (hA.ev rfl) ?_
       refine wp_skip ?_
       refine hK37 _ _ ?_
       refine wp_region_lit ?_
       refine seq_do hA rfl rfl rfl (d_move rfl) ?_
       intro a hA
       refine seq_do (v := .int .i64 (((i + 1 : Nat) : Int))) hA rfl rfl rfl (d_bin rfl rfl (fun w => (bin_add (i64In (by omega) (by omega)) w).trans (by rw [show (((i : Nat) : Int) + 1 : Int) = ((i + 1 : Nat) : Int) from by omega]))) ?_
       intro a hA
       refine seq_do hA rfl rfl rfl (d_assign rfl) ?_
       intro a hA
       refine seq_end ?_
       refine hK32 _ _ _ (by omega) ⟨i + 1, (P * u), J53, J54, J55, J56, rfl, ⟨by omega, hs9, pwB_step hB9 (by rw [hs9]; exact (Decidable.not_not.1 (of_decide_eq_false hb64)).1) (by rw [hs9]; exact fit_zero), fit_lenR (Decidable.not_not.1 (of_decide_eq_false hb64)).1, hPu, hsg9, ⟨hn59, hc60⟩, ⟨hn57, hc58⟩⟩, hA.keep _ ⟨rfl, rfl, rfl, rfl, rfl, rfl, rfl, rfl, rfl, rfl, rfl, rfl, rfl, rfl, rfl, rfl, rfl, rfl, rfl, rfl, rfl, rfl, rfl, rfl, rfl, rfl, rfl, rfl, trivial⟩, ((hS.pickR [(J53, words (P * u).num.natAbs), (J55, words (P * u).den), (p22_4, [1]), (p22_3, []), (p22_2, words (1 : Rat).den), (p22_1, words (1 : Rat).num.natAbs), (a4, words v.den), (a3, words v.num.natAbs), (a2, words u.den), (a1, words u.num.natAbs)] ⟨⟨1, rfl⟩, ⟨⟨0, rfl⟩, ⟨⟨4, rfl⟩, ⟨⟨5, rfl⟩, ⟨⟨6, rfl⟩, ⟨⟨7, rfl⟩, ⟨⟨8, rfl⟩, ⟨⟨9, rfl⟩, ⟨⟨10, rfl⟩, ⟨⟨11, rfl⟩, trivial⟩⟩⟩⟩⟩⟩⟩⟩⟩⟩).subL _ (.refl _))⟩
   refine wp_draw (S := fun w1 => St w w1 [(g4, [.bool false, .slice none 0 0, .slice none 0 0, .bool false, .slice none 0 0, .slice none 0 0]), (g2, [.bool (rb u.num), .slice a1 ((words u.num.natAbs).length) ac1, .slice a2 ((words u.den).length) ac2, .bool (rb v.num), .slice a3 ((words v.num.natAbs).length) ac3, .slice a4 ((words v.den).length) ac4])] [(po1, words P.num.natAbs), (po2, words P.den), (p22_4, [1]), (p22_3, []), (p22_2, words (1 : Rat).den), (p22_1, words (1 : Rat).num.natAbs), (a4, words v.den), (a3, words v.num.natAbs), (a2, words u.den), (a1, words u.num.natAbs)] []) (by kernel_rfl) ?_
   replace hS := hS.drew
   refine any_tk (v := .pointer (some ⟨g26, 0, none⟩)) hA 0 rfl rfl rfl rfl hP (hS.partD (.cons _ (.cons_cons _ (.cons_cons _ .slnil))) 0 rfl (.refl _)) (fun w1 hS => d_field SmG_fld_26_0 rfl rfl) ?_
   intro a hA
   refine any_tk (v := .pointer (some ⟨g26, 0, none⟩)) hA 1 rfl rfl rfl rfl hP (hS.partD (.cons _ (.cons_cons _ (.cons_cons _ .slnil))) 0 rfl (.refl _)) (fun w1 hS => d_field SmG_fld_24_0 rfl rfl) ?_
   intro a hA
   refine any_tk (v := .pointer (some ⟨g2, 0, none⟩)) hA 3 rfl rfl rfl rfl hP (hS.partD (.cons _ (.cons_cons _ (.cons_cons _ .slnil))) 0 rfl (.refl _)) (fun w1 hS => d_field SmG_fld_26_0 rfl rfl) ?_
   intro a hA
   refine any_tk (v := .pointer (some ⟨g2, 0, none⟩)) hA 4 rfl rfl rfl rfl hP (hS.partD (.cons _ (.cons_cons _ (.cons_cons _ .slnil))) 0 rfl (.refl _)) (fun w1 hS => d_field SmG_fld_24_0 rfl rfl) ?_
   intro a hA
   refine any_tk hA 5 rfl rfl rfl rfl hP (hS.partD (.cons _ (.cons_cons _ (.cons_cons _ .slnil))) 0 rfl (.refl _)) (fun w1 hS => d_load1 hS SmG_is1_4 rfl 1 rfl rfl) ?_
   intro a hA
   refine any_tk (v := .pointer (some ⟨g26, 0, none⟩)) hA 14 rfl rfl rfl rfl hP (hS.partD (.cons _ (.cons_cons _ (.cons_cons _ .slnil))) 0 rfl (.refl _)) (fun w1 hS => d_field SmG_fld_26_0 rfl rfl) ?_
   intro a hA
   refine any_tk (v := .pointer (some ⟨g26, 1, none⟩)) hA 15 rfl rfl rfl rfl hP (hS.partD (.cons _ (.cons_cons _ (.cons_cons _ .slnil))) 0 rfl (.refl _)) (fun w1 hS => d_field SmG_fld_24_1 rfl rfl) ?_
   intro a hA
   refine any_tk (v := .pointer (some ⟨g2, 0, none⟩)) hA 17 rfl rfl rfl rfl hP (hS.partD (.cons _ (.cons_cons _ (.cons_cons _ .slnil))) 0 rfl (.refl _)) (fun w1 hS => d_field SmG_fld_26_0 rfl rfl) ?_
   intro a hA
   refine any_tk (v := .pointer (some ⟨g2, 1, none⟩)) hA 18 rfl rfl rfl rfl hP (hS.partD (.cons _ (.cons_cons _ (.cons_cons _ .slnil))) 0 rfl (.refl _)) (fun w1 hS => d_field SmG_fld_24_1 rfl rfl) ?_
   intro a hA
   refine any_tk hA 19 rfl rfl rfl rfl hP (hS.partD (.cons _ (.cons_cons _ (.cons_cons _ .slnil))) 0 rfl (.refl _)) (fun w1 hS => d_load1 hS SmG_is1_22 rfl 1 rfl rfl) ?_
   intro a hA
   refine any_tk (v := .pointer (some ⟨g26, 0, none⟩)) hA 21 rfl rfl rfl rfl hP (hS.partD (.cons _ (.cons_cons _ (.cons_cons _ .slnil))) 0 rfl (.refl _)) (fun w1 hS => d_field SmG_fld_26_0 rfl rfl) ?_
   intro a hA
   refine any_tk (v := .pointer (some ⟨g26, 2, none⟩)) hA 22 rfl rfl rfl rfl hP (hS.partD (.cons _ (.cons_cons _ (.cons_cons _ .slnil))) 0 rfl (.refl _)) (fun w1 hS => d_field SmG_fld_24_2 rfl rfl) ?_
   intro a hA
   refine any_tk (v := .pointer (some ⟨g2, 0, none⟩)) hA 24 rfl rfl rfl rfl hP (hS.partD (.cons _ (.cons_cons _ (.cons_cons _ .slnil))) 0 rfl (.refl _)) (fun w1 hS => d_field SmG_fld_26_0 rfl rfl) ?_
   intro a hA
   refine any_tk (v := .pointer (some ⟨g2, 2, none⟩)) hA 25 rfl rfl rfl rfl hP (hS.partD (.cons _ (.cons_cons _ (.cons_cons _ .slnil))) 0 rfl (.refl _)) (fun w1 hS => d_field SmG_fld_24_2 rfl rfl) ?_
   intro a hA
   refine any_tk hA 26 rfl rfl rfl rfl hP (hS.partD (.cons _ (.cons_cons _ (.cons_cons _ .slnil))) 0 rfl (.refl _)) (fun w1 hS => d_load1 hS SmG_is1_22 rfl 1 rfl rfl) ?_
   intro a hA
   refine any_many (rs := [2, 16, 23]) (by kernel_rfl) (by simp) ⟨?_, ?_, ?_, trivial⟩
   · refine op_do hA 2 rfl rfl rfl rfl (d_load1 hS SmG_is1_4 rfl 0 rfl rfl) (hS.partD (.cons _ (.cons_cons _ (.cons_cons _ .slnil))) 0 rfl (.refl _)) ?_
     intro a hA
     refine any_tk (v := .bool false) hA 6 rfl rfl rfl rfl hP (hS.partD (.cons _ (.cons_cons _ (.cons_cons _ .slnil))) 0 rfl (.refl _)) (fun w1 hS => d_bin rfl rfl (fun w => ((bin_neqB Tryz.underlying4) w).trans (by rw [show (!((rb P.num) == rb u.num)) = false from (by rw [hPs, hsu]; rfl)]))) ?_
     intro a hA
     refine any_tk hA 7 rfl rfl rfl rfl hP (hS.partD (.cons _ (.cons_cons _ (.cons_cons _ .slnil))) 0 rfl (.refl _)) (fun w1 hS => d_move rfl) ?_
     intro a hA
     refine any_skip hA 8 rfl rfl rfl rfl (by kernel_rfl) (by kernel_rfl) (by kernel_rfl) (fun c a w h => hP c a _ _ w h) (hS.partD (.cons _ (.cons_cons _ (.cons_cons _ .slnil))) 0 rfl (.refl _)) ?_
     intro a hA
     refine any_skip hA 9 rfl rfl rfl rfl (by kernel_rfl) (by kernel_rfl) (by kernel_rfl) (fun c a w h => hP c a _ _ w h) (hS.partD (.cons _ (.cons_cons _ (.cons_cons _ .slnil))) 0 rfl (.refl _)) ?_
     intro a hA
     refine any_skip hA 10 rfl rfl rfl rfl (by kernel_rfl) (by kernel_rfl) (by kernel_rfl) (fun c a w h => hP c a _ _ w h) (hS.partD (.cons _ (.cons_cons _ (.cons_cons _ .slnil))) 0 rfl (.refl _)) ?_
     intro a hA
     refine any_skip hA 11 rfl rfl rfl rfl (by kernel_rfl) (by kernel_rfl) (by kernel_rfl) (fun c a w h => hP c a _ _ w h) (hS.partD (.cons _ (.cons_cons _ (.cons_cons _ .slnil))) 0 rfl (.refl _)) ?_
     intro a hA
     refine any_skip hA 12 rfl rfl rfl rfl (by kernel_rfl) (by kernel_rfl) (by kernel_rfl) (fun c a w h => hP c a _ _ w h) (hS.partD (.cons _ (.cons_cons _ (.cons_cons _ .slnil))) 0 rfl (.refl _)) ?_
     intro a hA
     refine any_tk (v := .bool ((rb (P * u).num))) hA 13 rfl rfl rfl rfl hP (hS.partD (.cons _ (.cons_cons _ (.cons_cons _ .slnil))) 0 rfl (.refl _)) (fun w1 hS => d_pick rfl rfl rfl (by rw [hsg9]; rfl)) ?_
     intro a hA
     refine any_many (rs := [16, 23]) (by kernel_rfl) (by simp) ⟨?_, ?_, trivial⟩
     · refine op_do hA 16 rfl rfl rfl rfl (d_load1 hS SmG_is1_22 rfl 0 rfl rfl) (hS.partD (.cons _ (.cons_cons _ (.cons_cons _ .slnil))) 0 rfl (.refl _)) ?_
       intro a hA
       refine any_many (rs := [20, 23]) (by kernel_rfl) (by simp) ⟨?_, ?_, trivial⟩
       · refine op_call hA 20 rfl rfl rfl rfl (enters_func  rfl rfl (fun w => by kernel_rfl)) (rtimes_as hn9 _ _ (hS.rd 0 rfl) (hS.rd 9 rfl) (by omega) (by omega)) ?_
         rintro _ w75 ⟨ro71, rc72, rfl, ho73, hb74⟩
         replace hS := hS.call hb74
         replace hS := hS.addR ho73.rd
         refine ⟨_, rfl, (hS.partD (.cons _ (.cons_cons _ (.cons_cons _ .slnil))) 1 rfl (.refl _)), ?_⟩
         intro a hA
         refine any_one (by kernel_rfl) (op_do hA 23 rfl rfl rfl rfl (d_load1 hS SmG_is1_22 rfl 0 rfl rfl) (hS.partD (.cons _ (.cons_cons _ (.cons_cons _ .slnil))) 1 rfl (.refl _)) ?_)
         intro a hA
         refine any_one (by kernel_rfl) (op_call hA 27 rfl rfl rfl rfl (enters_func  rfl rfl (fun w => by kernel_rfl)) (rtimes_as hd9 _ _ (hS.rd 2 rfl) (hS.rd 9 rfl) (by omega) (by omega)) ?_)
         rintro _ w80 ⟨ro76, rc77, rfl, ho78, hb79⟩
         replace hS := hS.call hb79
         replace hS := hS.addR ho78.rd
         refine ⟨_, rfl, (hS.partD (.cons _ (.cons_cons _ (.cons_cons _ .slnil))) 2 rfl (.refl _)), ?_⟩
         intro a hA
         refine any_tk (v := .agg #[.bool ((rb (P * u).num)), .slice ro71 ((words (P * u).num.natAbs).length) rc72, .slice ro76 ((words (P * u).den).length) rc77]) hA 28 rfl rfl rfl rfl hP (hS.partD (.cons _ (.cons_cons _ (.cons_cons _ .slnil))) 2 rfl (.refl _)) (fun w1 hS => d_build rfl (fun w => by kernel_rfl)) ?_
         intro a hA
         refine any_tk (v := .pointer (some ⟨g26, 0, none⟩)) hA 29 rfl rfl rfl rfl hP (hS.partD (.cons _ (.cons_cons _ (.cons_cons _ .slnil))) 2 rfl (.refl _)) (fun w1 hS => d_field SmG_fld_26_0 rfl rfl) ?_
         intro a hA
         refine any_one (by kernel_rfl) (op_store (us := [.bool ((rb (P * u).num)), .slice ro71 ((words (P * u).num.natAbs).length) rc72, .slice ro76 ((words (P * u).den).length) rc77, .bool false, .slice p22_3 0 p22_c3, .slice p22_4 1 p22_c4]) hA hS 30 rfl rfl rfl (sets_store rfl rfl rfl (by kernel_rfl) hS 0 rfl rfl rfl) 0 rfl rfl rfl rfl ?_)
         intro w81 hS
         refine ⟨(hS.partD (.cons _ (.cons_cons _ (.cons_cons _ .slnil))) 2 rfl (.refl _)), ?_⟩
         refine any_end (by kernel_rfl) ?_
         refine hJ61 _ _ ⟨ro71, rc72, ro76, rc77, hA.keep _ ⟨rfl, rfl, rfl, rfl, rfl, rfl, rfl, rfl, rfl, rfl, rfl, rfl, rfl, rfl, rfl, rfl, rfl, rfl, rfl, rfl, rfl, rfl, rfl, rfl, rfl, rfl, rfl, rfl, rfl, rfl, rfl, rfl, rfl, trivial⟩, (St.pickRL hS ⟨⟨0, rfl⟩, ⟨⟨1, rfl⟩, ⟨⟨2, rfl⟩, ⟨⟨3, rfl⟩, ⟨⟨4, rfl⟩, ⟨⟨5, rfl⟩, ⟨⟨6, rfl⟩, ⟨⟨7, rfl⟩, ⟨⟨8, rfl⟩, ⟨⟨9, rfl⟩, ⟨⟨10, rfl⟩, ⟨⟨11, rfl⟩, trivial⟩⟩⟩⟩⟩⟩⟩⟩⟩⟩⟩⟩ [0, 1, 2] rfl (by decide)), ho78.nocap, ho78.caps, ho73.nocap, ho73.caps⟩
       · refine op_do hA 23 rfl rfl rfl rfl (d_load1 hS SmG_is1_22 rfl 0 rfl rfl) (hS.partD (.cons _ (.cons_cons _ (.cons_cons _ .slnil))) 0 rfl (.refl _)) ?_
         intro a hA
         refine any_one (by kernel_rfl) (op_call hA 20 rfl rfl rfl rfl (enters_func  rfl rfl (fun w => by kernel_rfl)) (rtimes_as hn9 _ _ (hS.rd 0 rfl) (hS.rd 9 rfl) (by omega) (by omega)) ?_)
         rintro _ w86 ⟨ro82, rc83, rfl, ho84, hb85⟩
         replace hS := hS.call hb85
         replace hS := hS.addR ho84.rd
         refine ⟨_, rfl, (hS.partD (.cons _ (.cons_cons _ (.cons_cons _ .slnil))) 1 rfl (.refl _)), ?_⟩
         intro a hA
         refine any_one (by kernel_rfl) (op_call hA 27 rfl rfl rfl rfl (enters_func  rfl rfl (fun w => by kernel_rfl)) (rtimes_as hd9 _ _ (hS.rd 2 rfl) (hS.rd 9 rfl) (by omega) (by omega)) ?_)
         rintro _ w91 ⟨ro87, rc88, rfl, ho89, hb90⟩
         replace hS := hS.call hb90
         replace hS := hS.addR ho89.rd
         refine ⟨_, rfl, (hS.partD (.cons _ (.cons_cons _ (.cons_cons _ .slnil))) 2 rfl (.refl _)), ?_⟩
         intro a hA
         refine any_tk (v := .agg #[.bool ((rb (P * u).num)), .slice ro82 ((words (P * u).num.natAbs).length) rc83, .slice ro87 ((words (P * u).den).length) rc88]) hA 28 rfl rfl rfl rfl hP (hS.partD (.cons _ (.cons_cons _ (.cons_cons _ .slnil))) 2 rfl (.refl _)) (fun w1 hS => d_build rfl (fun w => by kernel_rfl)) ?_
         intro a hA
         refine any_tk (v := .pointer (some ⟨g26, 0, none⟩)) hA 29 rfl rfl rfl rfl hP (hS.partD (.cons _ (.cons_cons _ (.cons_cons _ .slnil))) 2 rfl (.refl _)) (fun w1 hS => d_field SmG_fld_26_0 rfl rfl) ?_
         intro a hA
         refine any_one (by kernel_rfl) (op_store (us := [.bool ((rb (P * u).num)), .slice ro82 ((words (P * u).num.natAbs).length) rc83, .slice ro87 ((words (P * u).den).length) rc88, .bool false, .slice p22_3 0 p22_c3, .slice p22_4 1 p22_c4]) hA hS 30 rfl rfl rfl (sets_store rfl rfl rfl (by kernel_rfl) hS 0 rfl rfl rfl) 0 rfl rfl rfl rfl ?_)
         intro w92 hS
         refine ⟨(hS.partD (.cons _ (.cons_cons _ (.cons_cons _ .slnil))) 2 rfl (.refl _)), ?_⟩
         refine any_end (by kernel_rfl) ?_
         refine hJ61 _ _ ⟨ro82, rc83, ro87, rc88, hA.keep _ ⟨rfl, rfl, rfl, rfl, rfl, rfl, rfl, rfl, rfl, rfl, rfl, rfl, rfl, rfl, rfl, rfl, rfl, rfl, rfl, rfl, rfl, rfl, rfl, rfl, rfl, rfl, rfl, rfl, rfl, rfl, rfl, rfl, rfl, trivial⟩, (St.pickRL hS ⟨⟨0, rfl⟩, ⟨⟨1, rfl⟩, ⟨⟨2, rfl⟩, ⟨⟨3, rfl⟩, ⟨⟨4, rfl⟩, ⟨⟨5, rfl⟩, ⟨⟨6, rfl⟩, ⟨⟨7, rfl⟩, ⟨⟨8, rfl⟩, ⟨⟨9, rfl⟩, ⟨⟨10, rfl⟩, ⟨⟨11, rfl⟩, trivial⟩⟩⟩⟩⟩⟩⟩⟩⟩⟩⟩⟩ [0, 1, 2] rfl (by decide)), ho89.nocap, ho89.caps, ho84.nocap, ho84.caps⟩
     · refine op_do hA 23 rfl rfl rfl rfl (d_load1 hS SmG_is1_22 rfl 0 rfl rfl) (hS.partD (.cons _ (.cons_cons _ (.cons_cons _ .slnil))) 0 rfl (.refl _)) ?_
       intro a hA
       refine any_one (by kernel_rfl) (op_do hA 16 rfl rfl rfl rfl (d_load1 hS SmG_is1_22 rfl 0 rfl rfl) (hS.partD (.cons _ (.cons_cons _ (.cons_cons _ .slnil))) 0 rfl (.refl _)) ?_)
       intro a hA
       refine any_one (by kernel_rfl) (op_call hA 20 rfl rfl rfl rfl (enters_func  rfl rfl (fun w => by kernel_rfl)) (rtimes_as hn9 _ _ (hS.rd 0 rfl) (hS.rd 9 rfl) (by omega) (by omega)) ?_)
       rintro _ w97 ⟨ro93, rc94, rfl, ho95, hb96⟩
       replace hS := hS.call hb96
       replace hS := hS.addR ho95.rd
       refine ⟨_, rfl, (hS.partD (.cons _ (.cons_cons _ (.cons_cons _ .slnil))) 1 rfl (.refl _)), ?_⟩
       intro a hA
       refine any_one (by kernel_rfl) (op_call hA 27 rfl rfl rfl rfl (enters_func  rfl rfl (fun w => by kernel_rfl)) (rtimes_as hd9 _ _ (hS.rd 2 rfl) (hS.rd 9 rfl) (by omega) (by omega)) ?_)
       rintro _ w102 ⟨ro98, rc99, rfl, ho100, hb101⟩
       replace hS := hS.call hb101
       replace hS := hS.addR ho100.rd
       refine ⟨_, rfl, (hS.partD (.cons _ (.cons_cons _ (.cons_cons _ .slnil))) 2 rfl (.refl _)), ?_⟩
       intro a hA
       refine any_tk (v := .agg #[.bool ((rb (P * u).num)), .slice ro93 ((words (P * u).num.natAbs).length) rc94, .slice ro98 ((words (P * u).den).length) rc99]) hA 28 rfl rfl rfl rfl hP (hS.partD (.cons _ (.cons_cons _ (.cons_cons _ .slnil))) 2 rfl (.refl _)) (fun w1 hS => d_build rfl (fun w => by kernel_rfl)) ?_
       intro a hA
       refine any_tk (v := .pointer (some ⟨g26, 0, none⟩)) hA 29 rfl rfl rfl rfl hP (hS.partD (.cons _ (.cons_cons _ (.cons_cons _ .slnil))) 2 rfl (.refl _)) (fun w1 hS => d_field SmG_fld_26_0 rfl rfl) ?_
       intro a hA
       refine any_one (by kernel_rfl) (op_store (us := [.bool ((rb (P * u).num)), .slice ro93 ((words (P * u).num.natAbs).length) rc94, .slice ro98 ((words (P * u).den).length) rc99, .bool false, .slice p22_3 0 p22_c3, .slice p22_4 1 p22_c4]) hA hS 30 rfl rfl rfl (sets_store rfl rfl rfl (by kernel_rfl) hS 0 rfl rfl rfl) 0 rfl rfl rfl rfl ?_)
       intro w103 hS
       refine ⟨(hS.partD (.cons _ (.cons_cons _ (.cons_cons _ .slnil))) 2 rfl (.refl _)), ?_⟩
       refine any_end (by kernel_rfl) ?_
       refine hJ61 _ _ ⟨ro93, rc94, ro98, rc99, hA.keep _ ⟨rfl, rfl, rfl, rfl, rfl, rfl, rfl, rfl, rfl, rfl, rfl, rfl, rfl, rfl, rfl, rfl, rfl, rfl, rfl, rfl, rfl, rfl, rfl, rfl, rfl, rfl, rfl, rfl, rfl, rfl, rfl, rfl, rfl, trivial⟩, (St.pickRL hS ⟨⟨0, rfl⟩, ⟨⟨1, rfl⟩, ⟨⟨2, rfl⟩, ⟨⟨3, rfl⟩, ⟨⟨4, rfl⟩, ⟨⟨5, rfl⟩, ⟨⟨6, rfl⟩, ⟨⟨7, rfl⟩, ⟨⟨8, rfl⟩, ⟨⟨9, rfl⟩, ⟨⟨10, rfl⟩, ⟨⟨11, rfl⟩, trivial⟩⟩⟩⟩⟩⟩⟩⟩⟩⟩⟩⟩ [0, 1, 2] rfl (by decide)), ho100.nocap, ho100.caps, ho95.nocap, ho95.caps⟩
   · refine op_do hA 16 rfl rfl rfl rfl (d_load1 hS SmG_is1_22 rfl 0 rfl rfl) (hS.partD (.cons _ (.cons_cons _ (.cons_cons _ .slnil))) 0 rfl (.refl _)) ?_
     intro a hA
     refine any_many (rs := [2, 23]) (by kernel_rfl) (by simp) ⟨?_, ?_, trivial⟩
     · refine op_do hA 2 rfl rfl rfl rfl (d_load1 hS SmG_is1_4 rfl 0 rfl rfl) (hS.partD (.cons _ (.cons_cons _ (.cons_cons _ .slnil))) 0 rfl (.refl _)) ?_
       intro a hA
       refine any_tk (v := .bool false) hA 6 rfl rfl rfl rfl hP (hS.partD (.cons _ (.cons_cons _ (.cons_cons _ .slnil))) 0 rfl (.refl _)) (fun w1 hS => d_bin rfl rfl (fun w => ((bin_neqB Tryz.underlying4) w).trans (by rw [show (!((rb P.num) == rb u.num)) = false from (by rw [hPs, hsu]; rfl)]))) ?_
       intro a hA
       refine any_tk hA 7 rfl rfl rfl rfl hP (hS.partD (.cons _ (.cons_cons _ (.cons_cons _ .slnil))) 0 rfl (.refl _)) (fun w1 hS => d_move rfl) ?_
       intro a hA
       refine any_skip hA 8 rfl rfl rfl rfl (by kernel_rfl) (by kernel_rfl) (by kernel_rfl) (fun c a w h => hP c a _ _ w h) (hS.partD (.cons _ (.cons_cons _ (.cons_cons _ .slnil))) 0 rfl (.refl _)) ?_
       intro a hA
       refine any_skip hA 9 rfl rfl rfl rfl (by kernel_rfl) (by kernel_rfl) (by kernel_rfl) (fun c a w h => hP c a _ _ w h) (hS.partD (.cons _ (.cons_cons _ (.cons_cons _ .slnil))) 0 rfl (.refl _)) ?_
       intro a hA
       refine any_skip hA 10 rfl rfl rfl rfl (by kernel_rfl) (by kernel_rfl) (by kernel_rfl) (fun c a w h => hP c a _ _ w h) (hS.partD (.cons _ (.cons_cons _ (.cons_cons _ .slnil))) 0 rfl (.refl _)) ?_
       intro a hA
       refine any_skip hA 11 rfl rfl rfl rfl (by kernel_rfl) (by kernel_rfl) (by kernel_rfl) (fun c a w h => hP c a _ _ w h) (hS.partD (.cons _ (.cons_cons _ (.cons_cons _ .slnil))) 0 rfl (.refl _)) ?_
       intro a hA
       refine any_skip hA 12 rfl rfl rfl rfl (by kernel_rfl) (by kernel_rfl) (by kernel_rfl) (fun c a w h => hP c a _ _ w h) (hS.partD (.cons _ (.cons_cons _ (.cons_cons _ .slnil))) 0 rfl (.refl _)) ?_
       intro a hA
       refine any_tk (v := .bool ((rb (P * u).num))) hA 13 rfl rfl rfl rfl hP (hS.partD (.cons _ (.cons_cons _ (.cons_cons _ .slnil))) 0 rfl (.refl _)) (fun w1 hS => d_pick rfl rfl rfl (by rw [hsg9]; rfl)) ?_
       intro a hA
       refine any_many (rs := [20, 23]) (by kernel_rfl) (by simp) ⟨?_, ?_, trivial⟩
       · refine op_call hA 20 rfl rfl rfl rfl (enters_func  rfl rfl (fun w => by kernel_rfl)) (rtimes_as hn9 _ _ (hS.rd 0 rfl) (hS.rd 9 rfl) (by omega) (by omega)) ?_
         rintro _ w108 ⟨ro104, rc105, rfl, ho106, hb107⟩
         replace hS := hS.call hb107
         replace hS := hS.addR ho106.rd
         refine ⟨_, rfl, (hS.partD (.cons _ (.cons_cons _ (.cons_cons _ .slnil))) 1 rfl (.refl _)), ?_⟩
         intro a hA
         refine any_one (by kernel_rfl) (op_do hA 23 rfl rfl rfl rfl (d_load1 hS SmG_is1_22 rfl 0 rfl rfl) (hS.partD (.cons _ (.cons_cons _ (.cons_cons _ .slnil))) 1 rfl (.refl _)) ?_)
         intro a hA
         refine any_one (by kernel_rfl) (op_call hA 27 rfl rfl rfl rfl (enters_func  rfl rfl (fun w => by kernel_rfl)) (rtimes_as hd9 _ _ (hS.rd 2 rfl) (hS.rd 9 rfl) (by omega) (by omega)) ?_)
         rintro _ w113 ⟨ro109, rc110, rfl, ho111, hb112⟩
         replace hS := hS.call hb112
         replace hS := hS.addR ho111.rd
         refine ⟨_, rfl, (hS.partD (.cons _ (.cons_cons _ (.cons_cons _ .slnil))) 2 rfl (.refl _)), ?_⟩
         intro a hA
         refine any_tk (v := .agg #[.bool ((rb (P * u).num)), .slice ro104 ((words (P * u).num.natAbs).length) rc105, .slice ro109 ((words (P * u).den).length) rc110]) hA 28 rfl rfl rfl rfl hP (hS.partD (.cons _ (.cons_cons _ (.cons_cons _ .slnil))) 2 rfl (.refl _)) (fun w1 hS => d_build rfl (fun w => by kernel_rfl)) ?_
         intro a hA
         refine any_tk (v := .pointer (some ⟨g26, 0, none⟩)) hA 29 rfl rfl rfl rfl hP (hS.partD (.cons _ (.cons_cons _ (.cons_cons _ .slnil))) 2 rfl (.refl _)) (fun w1 hS => d_field SmG_fld_26_0 rfl rfl) ?_
         intro a hA
         refine any_one (by kernel_rfl) (op_store (us := [.bool ((rb (P * u).num)), .slice ro104 ((words (P * u).num.natAbs).length) rc105, .slice ro109 ((words (P * u).den).length) rc110, .bool false, .slice p22_3 0 p22_c3, .slice p22_4 1 p22_c4]) hA hS 30 rfl rfl rfl (sets_store rfl rfl rfl (by kernel_rfl) hS 0 rfl rfl rfl) 0 rfl rfl rfl rfl ?_)
         intro w114 hS
         refine ⟨(hS.partD (.cons _ (.cons_cons _ (.cons_cons _ .slnil))) 2 rfl (.refl _)), ?_⟩
         refine any_end (by kernel_rfl) ?_
         refine hJ61 _ _ ⟨ro104, rc105, ro109, rc110, hA.keep _ ⟨rfl, rfl, rfl, rfl, rfl, rfl, rfl, rfl, rfl, rfl, rfl, rfl, rfl, rfl, rfl, rfl, rfl, rfl, rfl, rfl, rfl, rfl, rfl, rfl, rfl, rfl, rfl, rfl, rfl, rfl, rfl, rfl, rfl, trivial⟩, (St.pickRL hS ⟨⟨0, rfl⟩, ⟨⟨1, rfl⟩, ⟨⟨2, rfl⟩, ⟨⟨3, rfl⟩, ⟨⟨4, rfl⟩, ⟨⟨5, rfl⟩, ⟨⟨6, rfl⟩, ⟨⟨7, rfl⟩, ⟨⟨8, rfl⟩, ⟨⟨9, rfl⟩, ⟨⟨10, rfl⟩, ⟨⟨11, rfl⟩, trivial⟩⟩⟩⟩⟩⟩⟩⟩⟩⟩⟩⟩ [0, 1, 2] rfl (by decide)), ho111.nocap, ho111.caps, ho106.nocap, ho106.caps⟩
       · refine op_do hA 23 rfl rfl rfl rfl (d_load1 hS SmG_is1_22 rfl 0 rfl rfl) (hS.partD (.cons _ (.cons_cons _ (.cons_cons _ .slnil))) 0 rfl (.refl _)) ?_
         intro a hA
         refine any_one (by kernel_rfl) (op_call hA 20 rfl rfl rfl rfl (enters_func  rfl rfl (fun w => by kernel_rfl)) (rtimes_as hn9 _ _ (hS.rd 0 rfl) (hS.rd 9 rfl) (by omega) (by omega)) ?_)
         rintro _ w119 ⟨ro115, rc116, rfl, ho117, hb118⟩
         replace hS := hS.call hb118
         replace hS := hS.addR ho117.rd
         refine ⟨_, rfl, (hS.partD (.cons _ (.cons_cons _ (.cons_cons _ .slnil))) 1 rfl (.refl _)), ?_⟩
         intro a hA
         refine any_one (by kernel_rfl) (op_call hA 27 rfl rfl rfl rfl (enters_func  rfl rfl (fun w => by kernel_rfl)) (rtimes_as hd9 _ _ (hS.rd 2 rfl) (hS.rd 9 rfl) (by omega) (by omega)) ?_)
         rintro _ w124 ⟨ro120, rc121, rfl, ho122, hb123⟩
         replace hS := hS.call hb123
         replace hS := hS.addR ho122.rd
         refine ⟨_, rfl, (hS.partD (.cons _ (.cons_cons _ (.cons_cons _ .slnil))) 2 rfl (.refl _)), ?_⟩
         intro a hA
         refine any_tk (v := .agg #[.bool ((rb (P * u).num)), .slice ro115 ((words (P * u).num.natAbs).length) rc116, .slice ro120 ((words (P * u).den).length) rc121]) hA 28 rfl rfl rfl rfl hP (hS.partD (.cons _ (.cons_cons _ (.cons_cons _ .slnil))) 2 rfl (.refl _)) (fun w1 hS => d_build rfl (fun w => by kernel_rfl)) ?_
         intro a hA
         refine any_tk (v := .pointer (some ⟨g26, 0, none⟩)) hA 29 rfl rfl rfl rfl hP (hS.partD (.cons _ (.cons_cons _ (.cons_cons _ .slnil))) 2 rfl (.refl _)) (fun w1 hS => d_field SmG_fld_26_0 rfl rfl) ?_
         intro a hA
         refine any_one (by kernel_rfl) (op_store (us := [.bool ((rb (P * u).num)), .slice ro115 ((words (P * u).num.natAbs).length) rc116, .slice ro120 ((words (P * u).den).length) rc121, .bool false, .slice p22_3 0 p22_c3, .slice p22_4 1 p22_c4]) hA hS 30 rfl rfl rfl (sets_store rfl rfl rfl (by kernel_rfl) hS 0 rfl rfl rfl) 0 rfl rfl rfl rfl ?_)
         intro w125 hS
         refine ⟨(hS.partD (.cons _ (.cons_cons _ (.cons_cons _ .slnil))) 2 rfl (.refl _)), ?_⟩
         refine any_end (by kernel_rfl) ?_
         refine hJ61 _ _ ⟨ro115, rc116, ro120, rc121, hA.keep _ ⟨rfl, rfl, rfl, rfl, rfl, rfl, rfl, rfl, rfl, rfl, rfl, rfl, rfl, rfl, rfl, rfl, rfl, rfl, rfl, rfl, rfl, rfl, rfl, rfl, rfl, rfl, rfl, rfl, rfl, rfl, rfl, rfl, rfl, trivial⟩, (St.pickRL hS ⟨⟨0, rfl⟩, ⟨⟨1, rfl⟩, ⟨⟨2, rfl⟩, ⟨⟨3, rfl⟩, ⟨⟨4, rfl⟩, ⟨⟨5, rfl⟩, ⟨⟨6, rfl⟩, ⟨⟨7, rfl⟩, ⟨⟨8, rfl⟩, ⟨⟨9, rfl⟩, ⟨⟨10, rfl⟩, ⟨⟨11, rfl⟩, trivial⟩⟩⟩⟩⟩⟩⟩⟩⟩⟩⟩⟩ [0, 1, 2] rfl (by decide)), ho122.nocap, ho122.caps, ho117.nocap, ho117.caps⟩
     · refine op_do hA 23 rfl rfl rfl rfl (d_load1 hS SmG_is1_22 rfl 0 rfl rfl) (hS.partD (.cons _ (.cons_cons _ (.cons_cons _ .slnil))) 0 rfl (.refl _)) ?_
       intro a hA
       refine any_one (by kernel_rfl) (op_do hA 2 rfl rfl rfl rfl (d_load1 hS SmG_is1_4 rfl 0 rfl rfl) (hS.partD (.cons _ (.cons_cons _ (.cons_cons _ .slnil))) 0 rfl (.refl _)) ?_)
       intro a hA
       refine any_tk (v := .bool false) hA 6 rfl rfl rfl rfl hP (hS.partD (.cons _ (.cons_cons _ (.cons_cons _ .slnil))) 0 rfl (.refl _)) (fun w1 hS => d_bin rfl rfl (fun w => ((bin_neqB Tryz.underlying4) w).trans (by rw [show (!((rb P.num) == rb u.num)) = false from (by rw [hPs, hsu]; rfl)]))) ?_
       intro a hA
       refine any_tk hA 7 rfl rfl rfl rfl hP (hS.partD (.cons _ (.cons_cons _ (.cons_cons _ .slnil))) 0 rfl (.refl _)) (fun w1 hS => d_move rfl) ?_
       intro a hA
       refine any_skip hA 8 rfl rfl rfl rfl (by kernel_rfl) (by kernel_rfl) (by kernel_rfl) (fun c a w h => hP c a _ _ w h) (hS.partD (.cons _ (.cons_cons _ (.cons_cons _ .slnil))) 0 rfl (.refl _)) ?_
       intro a hA
       refine any_skip hA 9 rfl rfl rfl rfl (by kernel_rfl) (by kernel_rfl) (by kernel_rfl) (fun c a w h => hP c a _ _ w h) (hS.partD (.cons _ (.cons_cons _ (.cons_cons _ .slnil))) 0 rfl (.refl _)) ?_
       intro a hA
       refine any_skip hA 10 rfl rfl rfl rfl (by kernel_rfl) (by kernel_rfl) (by kernel_rfl) (fun c a w h => hP c a _ _ w h) (hS.partD (.cons _ (.cons_cons _ (.cons_cons _ .slnil))) 0 rfl (.refl _)) ?_
       intro a hA
       refine any_skip hA 11 rfl rfl rfl rfl (by kernel_rfl) (by kernel_rfl) (by kernel_rfl) (fun c a w h => hP c a _ _ w h) (hS.partD (.cons _ (.cons_cons _ (.cons_cons _ .slnil))) 0 rfl (.refl _)) ?_
       intro a hA
       refine any_skip hA 12 rfl rfl rfl rfl (by kernel_rfl) (by kernel_rfl) (by kernel_rfl) (fun c a w h => hP c a _ _ w h) (hS.partD (.cons _ (.cons_cons _ (.cons_cons _ .slnil))) 0 rfl (.refl _)) ?_
       intro a hA
       refine any_tk (v := .bool ((rb (P * u).num))) hA 13 rfl rfl rfl rfl hP (hS.partD (.cons _ (.cons_cons _ (.cons_cons _ .slnil))) 0 rfl (.refl _)) (fun w1 hS => d_pick rfl rfl rfl (by rw [hsg9]; rfl)) ?_
       intro a hA
       refine any_one (by kernel_rfl) (op_call hA 20 rfl rfl rfl rfl (enters_func  rfl rfl (fun w => by kernel_rfl)) (rtimes_as hn9 _ _ (hS.rd 0 rfl) (hS.rd 9 rfl) (by omega) (by omega)) ?_)
       rintro _ w130 ⟨ro126, rc127, rfl, ho128, hb129⟩
       replace hS := hS.call hb129
       replace hS := hS.addR ho128.rd
       refine ⟨_, rfl, (hS.partD (.cons _ (.cons_cons _ (.cons_cons _ .slnil))) 1 rfl (.refl _)), ?_⟩
       intro a hA
       refine any_one (by kernel_rfl) (op_call hA 27 rfl rfl rfl rfl (enters_func  rfl rfl (fun w => by kernel_rfl)) (rtimes_as hd9 _ _ (hS.rd 2 rfl) (hS.rd 9 rfl) (by omega) (by omega)) ?_)
       rintro _ w135 ⟨ro131, rc132, rfl, ho133, hb134⟩
       replace hS := hS.call hb134
       replace hS := hS.addR ho133.rd
       refine ⟨_, rfl, (hS.partD (.cons _ (.cons_cons _ (.cons_cons _ .slnil))) 2 rfl (.refl _)), ?_⟩
       intro a hA
       refine any_tk (v := .agg #[.bool ((rb (P * u).num)), .slice ro126 ((words (P * u).num.natAbs).length) rc127, .slice ro131 ((words (P * u).den).length) rc132]) hA 28 rfl rfl rfl rfl hP (hS.partD (.cons _ (.cons_cons _ (.cons_cons _ .slnil))) 2 rfl (.refl _)) (fun w1 hS => d_build rfl (fun w => by kernel_rfl)) ?_
       intro a hA
       refine any_tk (v := .pointer (some ⟨g26, 0, none⟩)) hA 29 rfl rfl rfl rfl hP (hS.partD (.cons _ (.cons_cons _ (.cons_cons _ .slnil))) 2 rfl (.refl _)) (fun w1 hS => d_field SmG_fld_26_0 rfl rfl) ?_
       intro a hA
       refine any_one (by kernel_rfl) (op_store (us := [.bool ((rb (P * u).num)), .slice ro126 ((words (P * u).num.natAbs).length) rc127, .slice ro131 ((words (P * u).den).length) rc132, .bool false, .slice p22_3 0 p22_c3, .slice p22_4 1 p22_c4]) hA hS 30 rfl rfl rfl (sets_store rfl rfl rfl (by kernel_rfl) hS 0 rfl rfl rfl) 0 rfl rfl rfl rfl ?_)
       intro w136 hS
       refine ⟨(hS.partD (.cons _ (.cons_cons _ (.cons_cons _ .slnil))) 2 rfl (.refl _)), ?_⟩
       refine any_end (by kernel_rfl) ?_
       refine hJ61 _ _ ⟨ro126, rc127, ro131, rc132, hA.keep _ ⟨rfl, rfl, rfl, rfl, rfl, rfl, rfl, rfl, rfl, rfl, rfl, rfl, rfl, rfl, rfl, rfl, rfl, rfl, rfl, rfl, rfl, rfl, rfl, rfl, rfl, rfl, rfl, rfl, rfl, rfl, rfl, rfl, rfl, trivial⟩, (St.pickRL hS ⟨⟨0, rfl⟩, ⟨⟨1, rfl⟩, ⟨⟨2, rfl⟩, ⟨⟨3, rfl⟩, ⟨⟨4, rfl⟩, ⟨⟨5, rfl⟩, ⟨⟨6, rfl⟩, ⟨⟨7, rfl⟩, ⟨⟨8, rfl⟩, ⟨⟨9, rfl⟩, ⟨⟨10, rfl⟩, ⟨⟨11, rfl⟩, trivial⟩⟩⟩⟩⟩⟩⟩⟩⟩⟩⟩⟩ [0, 1, 2] rfl (by decide)), ho133.nocap, ho133.caps, ho128.nocap, ho128.caps⟩
   · refine op_do hA 23 rfl rfl rfl rfl (d_load1 hS SmG_is1_22 rfl 0 rfl rfl) (hS.partD (.cons _ (.cons_cons _ (.cons_cons _ .slnil))) 0 rfl (.refl _)) ?_
     intro a hA
     refine any_many (rs := [2, 16]) (by kernel_rfl) (by simp) ⟨?_, ?_, trivial⟩
     · refine op_do hA 2 rfl rfl rfl rfl (d_load1 hS SmG_is1_4 rfl 0 rfl rfl) (hS.partD (.cons _ (.cons_cons _ (.cons_cons _ .slnil))) 0 rfl (.refl _)) ?_
       intro a hA
       refine any_tk (v := .bool false) hA 6 rfl rfl rfl rfl hP (hS.partD (.cons _ (.cons_cons _ (.cons_cons _ .slnil))) 0 rfl (.refl _)) (fun w1 hS => d_bin rfl rfl (fun w => ((bin_neqB Tryz.underlying4) w).trans (by rw [show (!((rb P.num) == rb u.num)) = false from (by rw [hPs, hsu]; rfl)]))) ?_
       intro a hA
       refine any_tk hA 7 rfl rfl rfl rfl hP (hS.partD (.cons _ (.cons_cons _ (.cons_cons _ .slnil))) 0 rfl (.refl _)) (fun w1 hS => d_move rfl) ?_
       intro a hA
       refine any_skip hA 8 rfl rfl rfl rfl (by kernel_rfl) (by kernel_rfl) (by kernel_rfl) (fun c a w h => hP c a _ _ w h) (hS.partD (.cons _ (.cons_cons _ (.cons_cons _ .slnil))) 0 rfl (.refl _)) ?_
       intro a hA
       refine any_skip hA 9 rfl rfl rfl rfl (by kernel_rfl) (by kernel_rfl) (by kernel_rfl) (fun c a w h => hP c a _ _ w h) (hS.partD (.cons _ (.cons_cons _ (.cons_cons _ .slnil))) 0 rfl (.refl _)) ?_
       intro a hA
       refine any_skip hA 10 rfl rfl rfl rfl (by kernel_rfl) (by kernel_rfl) (by kernel_rfl) (fun c a w h => hP c a _ _ w h) (hS.partD (.cons _ (.cons_cons _ (.cons_cons _ .slnil))) 0 rfl (.refl _)) ?_
       intro a hA
       refine any_skip hA 11 rfl rfl rfl rfl (by kernel_rfl) (by kernel_rfl) (by kernel_rfl) (fun c a w h => hP c a _ _ w h) (hS.partD (.cons _ (.cons_cons _ (.cons_cons _ .slnil))) 0 rfl (.refl _)) ?_
       intro a hA
       refine any_skip hA 12 rfl rfl rfl rfl (by kernel_rfl) (by kernel_rfl) (by kernel_rfl) (fun c a w h => hP c a _ _ w h) (hS.partD (.cons _ (.cons_cons _ (.cons_cons _ .slnil))) 0 rfl (.refl _)) ?_
       intro a hA
       refine any_tk (v := .bool ((rb (P * u).num))) hA 13 rfl rfl rfl rfl hP (hS.partD (.cons _ (.cons_cons _ (.cons_cons _ .slnil))) 0 rfl (.refl _)) (fun w1 hS => d_pick rfl rfl rfl (by rw [hsg9]; rfl)) ?_
       intro a hA
       refine any_one (by kernel_rfl) (op_do hA 16 rfl rfl rfl rfl (d_load1 hS SmG_is1_22 rfl 0 rfl rfl) (hS.partD (.cons _ (.cons_cons _ (.cons_cons _ .slnil))) 0 rfl (.refl _)) ?_)
       intro a hA
       refine any_one (by kernel_rfl) (op_call hA 20 rfl rfl rfl rfl (enters_func  rfl rfl (fun w => by kernel_rfl)) (rtimes_as hn9 _ _ (hS.rd 0 rfl) (hS.rd 9 rfl) (by omega) (by omega)) ?_)
       rintro _ w141 ⟨ro137, rc138, rfl, ho139, hb140⟩
       replace hS := hS.call hb140
       replace hS := hS.addR ho139.rd
       refine ⟨_, rfl, (hS.partD (.cons _ (.cons_cons _ (.cons_cons _ .slnil))) 1 rfl (.refl _)), ?_⟩
       intro a hA
       refine any_one (by kernel_rfl) (op_call hA 27 rfl rfl rfl rfl (enters_func  rfl rfl (fun w => by kernel_rfl)) (rtimes_as hd9 _ _ (hS.rd 2 rfl) (hS.rd 9 rfl) (by omega) (by omega)) ?_)
       rintro _ w146 ⟨ro142, rc143, rfl, ho144, hb145⟩
       replace hS := hS.call hb145
       replace hS := hS.addR ho144.rd
       refine ⟨_, rfl, (hS.partD (.cons _ (.cons_cons _ (.cons_cons _ .slnil))) 2 rfl (.refl _)), ?_⟩
       intro a hA
       refine any_tk (v := .agg #[.bool ((rb (P * u).num)), .slice ro137 ((words (P * u).num.natAbs).length) rc138, .slice ro142 ((words (P * u).den).length) rc143]) hA 28 rfl rfl rfl rfl hP (hS.partD (.cons _ (.cons_cons _ (.cons_cons _ .slnil))) 2 rfl (.refl _)) (fun w1 hS => d_build rfl (fun w => by kernel_rfl)) ?_
       intro a hA
       refine any_tk (v := .pointer (some ⟨g26, 0, none⟩)) hA 29 rfl rfl rfl rfl hP (hS.partD (.cons _ (.cons_cons _ (.cons_cons _ .slnil))) 2 rfl (.refl _)) (fun w1 hS => d_field SmG_fld_26_0 rfl rfl) ?_
       intro a hA
       refine any_one (by kernel_rfl) (op_store (us := [.bool ((rb (P * u).num)), .slice ro137 ((words (P * u).num.natAbs).length) rc138, .slice ro142 ((words (P * u).den).length) rc143, .bool false, .slice p22_3 0 p22_c3, .slice p22_4 1 p22_c4]) hA hS 30 rfl rfl rfl (sets_store rfl rfl rfl (by kernel_rfl) hS 0 rfl rfl rfl) 0 rfl rfl rfl rfl ?_)
       intro w147 hS
       refine ⟨(hS.partD (.cons _ (.cons_cons _ (.cons_cons _ .slnil))) 2 rfl (.refl _)), ?_⟩
       refine any_end (by kernel_rfl) ?_
       refine hJ61 _ _ ⟨ro137, rc138, ro142, rc143, hA.keep _ ⟨rfl, rfl, rfl, rfl, rfl, rfl, rfl, rfl, rfl, rfl, rfl, rfl, rfl, rfl, rfl, rfl, rfl, rfl, rfl, rfl, rfl, rfl, rfl, rfl, rfl, rfl, rfl, rfl, rfl, rfl, rfl, rfl, rfl, trivial⟩, (St.pickRL hS ⟨⟨0, rfl⟩, ⟨⟨1, rfl⟩, ⟨⟨2, rfl⟩, ⟨⟨3, rfl⟩, ⟨⟨4, rfl⟩, ⟨⟨5, rfl⟩, ⟨⟨6, rfl⟩, ⟨⟨7, rfl⟩, ⟨⟨8, rfl⟩, ⟨⟨9, rfl⟩, ⟨⟨10, rfl⟩, ⟨⟨11, rfl⟩, trivial⟩⟩⟩⟩⟩⟩⟩⟩⟩⟩⟩⟩ [0, 1, 2] rfl (by decide)), ho144.nocap, ho144.caps, ho139.nocap, ho139.caps⟩
     · refine op_do hA 16 rfl rfl rfl rfl (d_load1 hS SmG_is1_22 rfl 0 rfl rfl) (hS.partD (.cons _ (.cons_cons _ (.cons_cons _ .slnil))) 0 rfl (.refl _)) ?_
       intro a hA
       refine any_one (by kernel_rfl) (op_do hA 2 rfl rfl rfl rfl (d_load1 hS SmG_is1_4 rfl 0 rfl rfl) (hS.partD (.cons _ (.cons_cons _ (.cons_cons _ .slnil))) 0 rfl (.refl _)) ?_)
       intro a hA
       refine any_tk (v := .bool false) hA 6 rfl rfl rfl rfl hP (hS.partD (.cons _ (.cons_cons _ (.cons_cons _ .slnil))) 0 rfl (.refl _)) (fun w1 hS => d_bin rfl rfl (fun w => ((bin_neqB Tryz.underlying4) w).trans (by rw [show (!((rb P.num) == rb u.num)) = false from (by rw [hPs, hsu]; rfl)]))) ?_
       intro a hA
       refine any_tk hA 7 rfl rfl rfl rfl hP (hS.partD (.cons _ (.cons_cons _ (.cons_cons _ .slnil))) 0 rfl (.refl _)) (fun w1 hS => d_move rfl) ?_
       intro a hA
       refine any_skip hA 8 rfl rfl rfl rfl (by kernel_rfl) (by kernel_rfl) (by kernel_rfl) (fun c a w h => hP c a _ _ w h) (hS.partD (.cons _ (.cons_cons _ (.cons_cons _ .slnil))) 0 rfl (.refl _)) ?_
       intro a hA
       refine any_skip hA 9 rfl rfl rfl rfl (by kernel_rfl) (by kernel_rfl) (by kernel_rfl) (fun c a w h => hP c a _ _ w h) (hS.partD (.cons _ (.cons_cons _ (.cons_cons _ .slnil))) 0 rfl (.refl _)) ?_
       intro a hA
       refine any_skip hA 10 rfl rfl rfl rfl (by kernel_rfl) (by kernel_rfl) (by kernel_rfl) (fun c a w h => hP c a _ _ w h) (hS.partD (.cons _ (.cons_cons _ (.cons_cons _ .slnil))) 0 rfl (.refl _)) ?_
       intro a hA
       refine any_skip hA 11 rfl rfl rfl rfl (by kernel_rfl) (by kernel_rfl) (by kernel_rfl) (fun c a w h => hP c a _ _ w h) (hS.partD (.cons _ (.cons_cons _ (.cons_cons _ .slnil))) 0 rfl (.refl _)) ?_
       intro a hA
       refine any_skip hA 12 rfl rfl rfl rfl (by kernel_rfl) (by kernel_rfl) (by kernel_rfl) (fun c a w h => hP c a _ _ w h) (hS.partD (.cons _ (.cons_cons _ (.cons_cons _ .slnil))) 0 rfl (.refl _)) ?_
       intro a hA
       refine any_tk (v := .bool ((rb (P * u).num))) hA 13 rfl rfl rfl rfl hP (hS.partD (.cons _ (.cons_cons _ (.cons_cons _ .slnil))) 0 rfl (.refl _)) (fun w1 hS => d_pick rfl rfl rfl (by rw [hsg9]; rfl)) ?_
       intro a hA
       refine any_one (by kernel_rfl) (op_call hA 20 rfl rfl rfl rfl (enters_func  rfl rfl (fun w => by kernel_rfl)) (rtimes_as hn9 _ _ (hS.rd 0 rfl) (hS.rd 9 rfl) (by omega) (by omega)) ?_)
       rintro _ w152 ⟨ro148, rc149, rfl, ho150, hb151⟩
       replace hS := hS.call hb151
       replace hS := hS.addR ho150.rd
       refine ⟨_, rfl, (hS.partD (.cons _ (.cons_cons _ (.cons_cons _ .slnil))) 1 rfl (.refl _)), ?_⟩
       intro a hA
       refine any_one (by kernel_rfl) (op_call hA 27 rfl rfl rfl rfl (enters_func  rfl rfl (fun w => by kernel_rfl)) (rtimes_as hd9 _ _ (hS.rd 2 rfl) (hS.rd 9 rfl) (by omega) (by omega)) ?_)
       rintro _ w157 ⟨ro153, rc154, rfl, ho155, hb156⟩
       replace hS := hS.call hb156
       replace hS := hS.addR ho155.rd
       refine ⟨_, rfl, (hS.partD (.cons _ (.cons_cons _ (.cons_cons _ .slnil))) 2 rfl (.refl _)), ?_⟩
       intro a hA
       refine any_tk (v := .agg #[.bool ((rb (P * u).num)), .slice ro148 ((words (P * u).num.natAbs).length) rc149, .slice ro153 ((words (P * u).den).length) rc154]) hA 28 rfl rfl rfl rfl hP (hS.partD (.cons _ (.cons_cons _ (.cons_cons _ .slnil))) 2 rfl (.refl _)) (fun w1 hS => d_build rfl (fun w => by kernel_rfl)) ?_
       intro a hA
       refine any_tk (v := .pointer (some ⟨g26, 0, none⟩)) hA 29 rfl rfl rfl rfl hP (hS.partD (.cons _ (.cons_cons _ (.cons_cons _ .slnil))) 2 rfl (.refl _)) (fun w1 hS => d_field SmG_fld_26_0 rfl rfl) ?_
       intro a hA
       refine any_one (by kernel_rfl) (op_store (us := [.bool ((rb (P * u).num)), .slice ro148 ((words (P * u).num.natAbs).length) rc149, .slice ro153 ((words (P * u).den).length) rc154, .bool false, .slice p22_3 0 p22_c3, .slice p22_4 1 p22_c4]) hA hS 30 rfl rfl rfl (sets_store rfl rfl rfl (by kernel_rfl) hS 0 rfl rfl rfl) 0 rfl rfl rfl rfl ?_)
       intro w158 hS
       refine ⟨(hS.partD (.cons _ (.cons_cons _ (.cons_cons _ .slnil))) 2 rfl (.refl _)), ?_⟩
       refine any_end (by kernel_rfl) ?_
       refine hJ61 _ _ ⟨ro148, rc149, ro153, rc154, hA.keep _ ⟨rfl, rfl, rfl, rfl, rfl, rfl, rfl, rfl, rfl, rfl, rfl, rfl, rfl, rfl, rfl, rfl, rfl, rfl, rfl, rfl, rfl, rfl, rfl, rfl, rfl, rfl, rfl, rfl, rfl, rfl, rfl, rfl, rfl, trivial⟩, (St.pickRL hS ⟨⟨0, rfl⟩, ⟨⟨1, rfl⟩, ⟨⟨2, rfl⟩, ⟨⟨3, rfl⟩, ⟨⟨4, rfl⟩, ⟨⟨5, rfl⟩, ⟨⟨6, rfl⟩, ⟨⟨7, rfl⟩, ⟨⟨8, rfl⟩, ⟨⟨9, rfl⟩, ⟨⟨10, rfl⟩, ⟨⟨11, rfl⟩, trivial⟩⟩⟩⟩⟩⟩⟩⟩⟩⟩⟩⟩ [0, 1, 2] rfl (by decide)), ho155.nocap, ho155.caps, ho150.nocap, ho150.caps⟩
 · have hb36' := of_decide_eq_false hb36
   refine seq_do (v := .bool false) hA rfl rfl rfl (d_bin rfl rfl (fun w => (bin_lss w).trans (by rw [hb36]))) ?_
   intro a hA
   refine seq_end ?_
   refine hK35 _ _ ?_
   refine wp_cond_false (hA.ev rfl) ?_
   refine wp_exit ?_
   refine hK29 _ _ ?_
   refine wp_seq_k (fun K159 hK159 => ?_)
   refine wp_seq_k (fun K160 hK160 => ?_)
   refine wp_region_lit ?_
   refine seq_do hA rfl rfl rfl (d_move rfl) ?_
   intro a hA
   refine seq_do (v := .bool true) hA rfl rfl rfl (d_bin rfl rfl (fun w => (bin_lss w).trans (by rw [show (decide (-((N : Nat) : Int) < 0)) = true from (decide_eq_true (by omega))]))) ?_
   intro a hA
   refine seq_end ?_
   refine hK160 _ _ ?_
   refine wp_cond_true (hA.ev rfl) ?_
   refine wp_region_lit ?_
   refine seq_do hA rfl rfl rfl (d_loadS hS SmG_isS_26 rfl 0 rfl (cs := [.bool ((rb P.num)), .slice po1 ((words P.num.natAbs).length) poc1, .slice po2 ((words P.den).length) poc2, .bool false, .slice p22_3 0 p22_c3, .slice p22_4 1 p22_c4]) rfl rfl) ?_
   intro a hA
   refine seq_call hA rfl rfl rfl (enters_func  rfl rfl (fun w => by kernel_rfl)) (rinv0_any (show Nm _ (Q6.real P) po1 poc1 po2 poc2 p22_3 p22_c3 p22_4 p22_c4 from ⟨⟨(hS.rd 0 rfl), kn1.1, kn1.2⟩, ⟨(hS.rd 1 rfl), kn2.1, kn2.2⟩, ⟨(hS.rd 3 rfl), hn23.s3.nil, hn23.s3.cap⟩, ⟨(hS.rd 2 rfl), hn23.s4.nil, hn23.s4.cap⟩⟩) LP (fun c => hz (pow_zero9 hPw hv0 c)) (iv_fst (by omega) hp9 j0) (iv_snd (by omega) hp9 j0)) ?_
   rintro _ w164 ⟨p161_1, p161_c1, p161_2, p161_c2, p161_3, p161_c3, p161_4, p161_c4, rfl, hn162, hb163⟩
   replace hS := hS.call hb163
   replace hS := hS.addR hn162.s1.rd
   replace hS := hS.addR hn162.s2.rd
   replace hS := hS.addR hn162.s3.rd
   replace hS := hS.addR hn162.s4.rd
   refine ⟨_, rfl, ?_⟩
   intro a hA
   refine seq_store (us := [.bool (rb i1.num), .slice p161_1 ((words i1.num.natAbs).length) p161_c1, .slice p161_2 ((words i1.den).length) p161_c2, .bool (rb i2.num), .slice p161_3 ((words i2.num.natAbs).length) p161_c3, .slice p161_4 ((words i2.den).length) p161_c4]) hA hS rfl rfl (sets_store rfl rfl rfl (by kernel_rfl) hS 0 rfl rfl rfl) 0 rfl rfl rfl rfl ?_
   intro w165 hS
   refine seq_end ?_
   refine hK159 _ _ ?_
   refine wp_seq_k (fun K166 hK166 => ?_)
   refine wp_region_lit ?_
   refine seq_do hA rfl rfl rfl (d_loadS hS SmG_isS_26 rfl 0 rfl (cs := [.bool (rb i1.num), .slice p161_1 ((words i1.num.natAbs).length) p161_c1, .slice p161_2 ((words i1.den).length) p161_c2, .bool (rb i2.num), .slice p161_3 ((words i2.num.natAbs).length) p161_c3, .slice p161_4 ((words i2.den).length) p161_c4]) rfl rfl) ?_
   intro a hA
   refine seq_call hA rfl rfl rfl (enters_func  rfl rfl (fun w => by kernel_rfl)) (rfit_any (show Nm _ (Q6.rat i1 i2) p161_1 p161_c1 p161_2 p161_c2 p161_3 p161_c3 p161_4 p161_c4 from ⟨⟨(hS.rd 3 rfl), hn162.s1.nil, hn162.s1.cap⟩, ⟨(hS.rd 2 rfl), hn162.s2.nil, hn162.s2.cap⟩, ⟨(hS.rd 1 rfl), hn162.s3.nil, hn162.s3.cap⟩, ⟨(hS.rd 0 rfl), hn162.s4.nil, hn162.s4.cap⟩⟩) (LI ((show i = N by omega) ▸ hB9)).1 (LI ((show i = N by omega) ▸ hB9)).2) ?_
   rintro _ w170 ⟨p167_1, p167_c1, p167_2, p167_c2, p167_3, p167_c3, p167_4, p167_c4, rfl, hn168, hb169⟩
   replace hS := hS.call hb169
   replace hS := hS.addR hn168.s1.rd
   replace hS := hS.addR hn168.s2.rd
   replace hS := hS.addR hn168.s3.rd
   replace hS := hS.addR hn168.s4.rd
   refine ⟨_, rfl, ?_⟩
   intro a hA
   refine seq_do (v := .agg #[.bool ((ratS i1 i2).1.b1), .slice p167_1 (((ratS i1 i2).1.t1).length) p167_c1, .slice p167_2 (((ratS i1 i2).1.q1).length) p167_c2, .bool ((ratS i1 i2).1.b2), .slice p167_3 (((ratS i1 i2).1.t2).length) p167_c3, .slice p167_4 (((ratS i1 i2).1.q2).length) p167_c4]) hA rfl rfl rfl (d_extract (vs := [.agg #[.bool ((ratS i1 i2).1.b1), .slice p167_1 (((ratS i1 i2).1.t1).length) p167_c1, .slice p167_2 (((ratS i1 i2).1.q1).length) p167_c2, .bool ((ratS i1 i2).1.b2), .slice p167_3 (((ratS i1 i2).1.t2).length) p167_c3, .slice p167_4 (((ratS i1 i2).1.q2).length) p167_c4], .int .i64 ((ratS i1 i2).2)]) rfl rfl) ?_
   intro a hA
   refine seq_do (v := .int .i64 ((ratS i1 i2).2)) hA rfl rfl rfl (d_extract (vs := [.agg #[.bool ((ratS i1 i2).1.b1), .slice p167_1 (((ratS i1 i2).1.t1).length) p167_c1, .slice p167_2 (((ratS i1 i2).1.q1).length) p167_c2, .bool ((ratS i1 i2).1.b2), .slice p167_3 (((ratS i1 i2).1.t2).length) p167_c3, .slice p167_4 (((ratS i1 i2).1.q2).length) p167_c4], .int .i64 ((ratS i1 i2).2)]) rfl rfl) ?_
   intro a hA
   refine seq_store (us := [.bool ((ratS i1 i2).1.b1), .slice p167_1 (((ratS i1 i2).1.t1).length) p167_c1, .slice p167_2 (((ratS i1 i2).1.q1).length) p167_c2, .bool ((ratS i1 i2).1.b2), .slice p167_3 (((ratS i1 i2).1.t2).length) p167_c3, .slice p167_4 (((ratS i1 i2).1.q2).length) p167_c4]) hA hS rfl rfl (sets_store rfl rfl rfl (by kernel_rfl) hS 1 rfl rfl rfl) 1 rfl rfl rfl rfl ?_
   intro w171 hS
   refine seq_do hA rfl rfl rfl (d_assign rfl) ?_
   intro a hA
   refine seq_end ?_
   refine hK166 _ _ ?_
   refine wp_ret ?_
   refine hret _ _ ?_
   refine ends (v := .tuple #[.agg #[.bool ((ratS i1 i2).1.b1), .slice p167_1 (((ratS i1 i2).1.t1).length) p167_c1, .slice p167_2 (((ratS i1 i2).1.q1).length) p167_c2, .bool ((ratS i1 i2).1.b2), .slice p167_3 (((ratS i1 i2).1.t2).length) p167_c3, .slice p167_4 (((ratS i1 i2).1.q2).length) p167_c4], .int .i64 ((ratS i1 i2).2)]) hA rfl (.cons (res_cell hS SmG_isS_26 rfl 1 rfl (cs := [.bool ((ratS i1 i2).1.b1), .slice p167_1 (((ratS i1 i2).1.t1).length) p167_c1, .slice p167_2 (((ratS i1 i2).1.q1).length) p167_c2, .bool ((ratS i1 i2).1.b2), .slice p167_3 (((ratS i1 i2).1.t2).length) p167_c3, .slice p167_4 (((ratS i1 i2).1.q2).length) p167_c4]) rfl rfl) (.cons (res_tmp rfl) .nil)) rfl ?_
   obtain rfl : i = N := by omega
   rw [exptQ_neg hu hv (by omega) h2 hz, if_pos hB9, j0]
   show AnsN w (ratS i1 i2) _ _
   exact ⟨p167_1, p167_c1, p167_2, p167_c2, p167_3, p167_c3, p167_4, p167_c4, rfl, ⟨⟨(hS.rd 3 rfl), hn168.s1.nil, hn168.s1.cap⟩, ⟨(hS.rd 2 rfl), hn168.s2.nil, hn168.s2.cap⟩, ⟨(hS.rd 1 rfl), hn168.s3.nil, hn168.s3.cap⟩, ⟨(hS.rd 0 rfl), hn168.s4.nil, hn168.s4.cap⟩⟩, hS.bel⟩
theorem rb_flip {x y : Int} (h : rb y = true) (hx : x ≠ 0) : rb (x * y) = !rb x := by
  have h1 := of_decide_eq_true h
  unfold rb
  by_cases k : x < 0
  · rw [decide_eq_true k, decide_eq_false (by have := Int.mul_pos_of_neg_of_neg k h1; omega)]; rfl
  · rw [decide_eq_false k, decide_eq_true (Int.mul_neg_of_pos_of_neg (by omega) h1)]; rfl
theorem pow_num_ne {u : Rat} (h : u.num ≠ 0) (i : Nat) : (u ^ i).num ≠ 0 := by rw [Rat.num_pow]; exact Int.pow_ne_zero h
set_option maxHeartbeats 2000000 in
theorem rexRtP_any {w : World} {u v : Rat} {a1 a2 a3 a4 : Option Addr} {ac1 ac2 ac3 ac4 : Nat} (ha : Nm w (Q6.rat u v) a1 ac1 a2 ac2 a3 ac3 a4 ac4) (hu : fitR u) (hv : fitR v) {N : Nat} (h1 : 1 ≤ N) (h2 : N ≤ 1024) (k2 : decide ((Q6.rat u v).t2.length = 0) = true) (hv0 : v = 0) (hsu : rb u.num = true) (LU : LenR 512 u) : Calls Tryz.prog 31 #[numV (Q6.rat u v) a1 ac1 a2 ac2 a3 ac3 a4 ac4, .int .i64 (((N : Nat) : Int))] w (AnsN w (exptQ (Q6.rat u v) (((N : Nat) : Int)))) := by
 have kU : 0 < (words u.num.natAbs).length := words_len_pos.2 (by have h7 := of_decide_eq_true hsu; omega)
 have hS : St w w [] [(a4, words v.den), (a3, words v.num.natAbs), (a2, words u.den), (a1, words u.num.natAbs)] [] := ((((St.start w).addR ha.s1.rd).addR ha.s2.rd).addR ha.s3.rd).addR ha.s4.rd
 refine walk_of (l := [(0, .agg #[.bool (rb u.num), .slice a1 ((words u.num.natAbs).length) ac1, .slice a2 ((words u.den).length) ac2, .bool (rb v.num), .slice a3 ((words v.num.natAbs).length) ac3, .slice a4 ((words v.den).length) ac4]), (1, .int .i64 (((N : Nat) : Int)))]) Tryz.func31 rfl Tryz.ntmps31 rfl rfl ?_
 intro Q hret hnorm hP a hA
 refine wp_seq_k (fun K1 hK1 => ?_)
 refine wp_region_lit ?_
 refine seq_new hA hS rfl rfl rfl (fun g => .pointer (some ⟨g, 0, none⟩)) (d_box rfl rfl) rfl ?_
 intro g2 w3 hS a hA
 refine seq_new (vs := [.bool false, .slice none 0 0, .slice none 0 0, .bool false, .slice none 0 0, .slice none 0 0]) (t := 26) hA hS rfl rfl rfl (fun g => .pointer (some ⟨g, 0, none⟩)) (d_alloc (z := .agg #[.bool false, .slice none 0 0, .slice none 0 0, .bool false, .slice none 0 0, .slice none 0 0]) (by kernel_rfl) rfl) rfl ?_
 intro g4 w5 hS a hA
 refine seq_do hA rfl rfl rfl (d_assign rfl) ?_
 intro a hA
 refine seq_end ?_
 refine hK1 _ _ ?_
 refine wp_seq_k (fun K6 hK6 => ?_)
 refine wp_seq_k (fun K7 hK7 => ?_)
 refine wp_region_lit ?_
 refine seq_do hA rfl rfl rfl (d_loadS hS SmG_isS_26 rfl 1 rfl (cs := [.bool (rb u.num), .slice a1 ((words u.num.natAbs).length) ac1, .slice a2 ((words u.den).length) ac2, .bool (rb v.num), .slice a3 ((words v.num.natAbs).length) ac3, .slice a4 ((words v.den).length) ac4]) rfl rfl) ?_
 intro a hA
 refine seq_call hA rfl rfl rfl (enters_func  rfl rfl (fun w => by kernel_rfl)) (rsoundQ_any (show Nm _ (Q6.rat u v) a1 ac1 a2 ac2 a3 ac3 a4 ac4 from ⟨⟨(hS.rd 3 rfl), ha.s1.nil, ha.s1.cap⟩, ⟨(hS.rd 2 rfl), ha.s2.nil, ha.s2.cap⟩, ⟨(hS.rd 1 rfl), ha.s3.nil, ha.s3.cap⟩, ⟨(hS.rd 0 rfl), ha.s4.nil, ha.s4.cap⟩⟩) (lenQ_rat hu hv) (soundQ_rat hu hv)) ?_
 rintro _ w9 ⟨rfl, hb8⟩
 replace hS := hS.call hb8
 refine ⟨_, rfl, ?_⟩
 intro a hA
 refine seq_do (v := .bool false) hA rfl rfl rfl (d_un rfl un_not) ?_
 intro a hA
 refine seq_end ?_
 refine hK7 _ _ ?_
 refine wp_cond_false (hA.ev rfl) ?_
 refine wp_skip ?_
 refine hK6 _ _ ?_
 refine wp_seq_k (fun K10 hK10 => ?_)
 refine wp_seq_k (fun K11 hK11 => ?_)
 refine wp_region_lit ?_
 refine seq_do hA rfl rfl rfl (d_move rfl) ?_
 intro a hA
 refine seq_do (v := .bool false) hA rfl rfl rfl (d_bin rfl rfl (fun w => (bin_lss w).trans (by rw [show (decide (((N : Nat) : Int) < -1024)) = false from (decide_eq_false (by omega))]))) ?_
 intro a hA
 refine seq_do hA rfl rfl rfl (d_move rfl) ?_
 intro a hA
 refine seq_do hA rfl rfl rfl (d_move rfl) ?_
 intro a hA
 refine seq_do (v := .bool false) hA rfl rfl rfl (d_bin rfl rfl (fun w => (bin_gtr w).trans (by rw [show (decide (1024 < ((N : Nat) : Int))) = false from (decide_eq_false (by omega))]))) ?_
 intro a hA
 refine seq_do (v := .bool false) hA rfl rfl rfl (d_pick rfl rfl rfl rfl) ?_
 intro a hA
 refine seq_end ?_
 refine hK11 _ _ ?_
 refine wp_cond_false (hA.ev rfl) ?_
 refine wp_skip ?_
 refine hK10 _ _ ?_
 refine wp_seq_k (fun K12 hK12 => ?_)
 refine wp_seq_k (fun K13 hK13 => ?_)
 refine wp_region_lit ?_
 refine seq_do hA rfl rfl rfl (d_move rfl) ?_
 intro a hA
 refine seq_do (v := .bool false) hA rfl rfl rfl (d_bin rfl rfl (fun w => (bin_eql w).trans (by rw [show ((((N : Nat) : Int) == 0)) = false from (beq_eq_false_iff_ne.2 (by omega))]))) ?_
 intro a hA
 refine seq_end ?_
 refine hK13 _ _ ?_
 refine wp_cond_false (hA.ev rfl) ?_
 refine wp_skip ?_
 refine hK12 _ _ ?_
 refine wp_seq_k (fun K14 hK14 => ?_)
 refine wp_seq_k (fun K15 hK15 => ?_)
 have hJ21 : ∀ a w1, (Sl a 87 [(0, .agg #[.bool (rb u.num), .slice a1 ((words u.num.natAbs).length) ac1, .slice a2 ((words u.den).length) ac2, .bool (rb v.num), .slice a3 ((words v.num.natAbs).length) ac3, .slice a4 ((words v.den).length) ac4]), (1, .int .i64 (((N : Nat) : Int))), (2, .pointer (some ⟨g2, 0, none⟩)), (4, .pointer (some ⟨g4, 0, none⟩)), (5, .int .i64 0), (9, .agg #[.bool (rb u.num), .slice a1 ((words u.num.natAbs).length) ac1, .slice a2 ((words u.den).length) ac2, .bool (rb v.num), .slice a3 ((words v.num.natAbs).length) ac3, .slice a4 ((words v.den).length) ac4]), (10, .bool true), (11, .bool false), (13, .int .i64 (((N : Nat) : Int))), (14, .bool false), (15, .bool false), (16, .int .i64 (((N : Nat) : Int))), (17, .bool false), (18, .bool false), (20, .int .i64 (((N : Nat) : Int))), (21, .bool false), (28, .bool false)] ∧ St w w1 [(g4, [.bool false, .slice none 0 0, .slice none 0 0, .bool false, .slice none 0 0, .slice none 0 0]), (g2, [.bool (rb u.num), .slice a1 ((words u.num.natAbs).length) ac1, .slice a2 ((words u.den).length) ac2, .bool (rb v.num), .slice a3 ((words v.num.natAbs).length) ac3, .slice a4 ((words v.den).length) ac4])] [(a4, words v.den), (a3, words v.num.natAbs), (a2, words u.den), (a1, words u.num.natAbs)] []) → K15 a w1 := by
   clear hA hS
   rintro a w22 ⟨hA, hS⟩
   refine hK15 _ _ ?_
   refine wp_cond_false (hA.ev rfl) ?_
   refine wp_skip ?_
   refine hK14 _ _ ?_
   refine wp_seq_k (fun K23 hK23 => ?_)
   refine wp_region_lit ?_
   refine seq_do hA rfl rfl rfl (d_move rfl) ?_
   intro a hA
   refine seq_do hA rfl rfl rfl (d_assign rfl) ?_
   intro a hA
   refine seq_end ?_
   refine hK23 _ _ ?_
   refine wp_seq_k (fun K24 hK24 => ?_)
   refine wp_seq_k (fun K25 hK25 => ?_)
   refine wp_region_lit ?_
   refine seq_do hA rfl rfl rfl (d_move rfl) ?_
   intro a hA
   refine seq_do (v := .bool false) hA rfl rfl rfl (d_bin rfl rfl (fun w => (bin_lss w).trans (by rw [show (decide (((N : Nat) : Int) < 0)) = false from (decide_eq_false (by omega))]))) ?_
   intro a hA
   refine seq_end ?_
   refine hK25 _ _ ?_
   refine wp_cond_false (hA.ev rfl) ?_
   refine wp_skip ?_
   refine hK24 _ _ ?_
   refine wp_seq_k (fun K26 hK26 => ?_)
   refine wp_region_lit ?_
   refine seq_call hA rfl rfl rfl (enters_func  rfl rfl (fun w => by kernel_rfl)) (rint1_any) ?_
   rintro _ w30 ⟨p27_1, p27_c1, p27_2, p27_c2, p27_3, p27_c3, p27_4, p27_c4, rfl, hn28, hb29⟩
   replace hS := hS.call hb29
   replace hS := hS.addR hn28.s1.rd
   replace hS := hS.addR hn28.s2.rd
   replace hS := hS.addR hn28.s3.rd
   replace hS := hS.addR hn28.s4.rd
   refine ⟨_, rfl, ?_⟩
   intro a hA
   refine seq_new (vs := [.bool false, .slice none 0 0, .slice none 0 0, .bool false, .slice none 0 0, .slice none 0 0]) (t := 26) hA hS rfl rfl rfl (fun g => .pointer (some ⟨g, 0, none⟩)) (d_alloc (z := .agg #[.bool false, .slice none 0 0, .slice none 0 0, .bool false, .slice none 0 0, .slice none 0 0]) (by kernel_rfl) rfl) rfl ?_
   intro g31 w32 hS a hA
   refine seq_store (us := [.bool ((rb (1 : Rat).num)), .slice p27_1 ((words (1 : Rat).num.natAbs).length) p27_c1, .slice p27_2 ((words (1 : Rat).den).length) p27_c2, .bool false, .slice p27_3 0 p27_c3, .slice p27_4 1 p27_c4]) hA hS rfl rfl (sets_store rfl rfl rfl (by kernel_rfl) hS 0 rfl rfl rfl) 0 rfl rfl rfl rfl ?_
   intro w33 hS
   refine seq_end ?_
   refine hK26 _ _ ?_
   refine wp_seq_k (fun K34 hK34 => ?_)
   refine wp_seq_k (fun K35 hK35 => ?_)
   refine wp_region_lit ?_
   refine seq_do hA rfl rfl rfl (d_assign rfl) ?_
   intro a hA
   refine seq_end ?_
   refine hK35 _ _ ?_
   refine wp_block ?_
   refine wp_loop_n (fun m a w1 => ∃ (i : Nat) (P : Rat) (po1 : Option Addr) (poc1 : Nat) (po2 : Option Addr) (poc2 : Nat), m = N - i ∧ (i ≤ N ∧ pwR u v i = (P, 0) ∧ pwB u v i = true ∧ LenR 512 P ∧ P = u ^ i ∧ P.num ≠ 0 ∧ Ncap po1 poc1 (words P.num.natAbs) ∧ Ncap po2 poc2 (words P.den)) ∧ Sl a 87 [(0, .agg #[.bool (rb u.num), .slice a1 ((words u.num.natAbs).length) ac1, .slice a2 ((words u.den).length) ac2, .bool (rb v.num), .slice a3 ((words v.num.natAbs).length) ac3, .slice a4 ((words v.den).length) ac4]), (1, .int .i64 (((N : Nat) : Int))), (2, .pointer (some ⟨g2, 0, none⟩)), (4, .pointer (some ⟨g4, 0, none⟩)), (6, .int .i64 (((N : Nat) : Int))), (7, .pointer (some ⟨g31, 0, none⟩)), (8, .int .i64 (((i : Nat) : Int))), (9, .agg #[.bool (rb u.num), .slice a1 ((words u.num.natAbs).length) ac1, .slice a2 ((words u.den).length) ac2, .bool (rb v.num), .slice a3 ((words v.num.natAbs).length) ac3, .slice a4 ((words v.den).length) ac4]), (10, .bool true), (11, .bool false), (13, .int .i64 (((N : Nat) : Int))), (14, .bool false), (15, .bool false), (16, .int .i64 (((N : Nat) : Int))), (17, .bool false), (18, .bool false), (20, .int .i64 (((N : Nat) : Int))), (21, .bool false), (28, .bool false), (30, .int .i64 (((N : Nat) : Int))), (31, .int .i64 (((N : Nat) : Int))), (32, .bool false), (35, .agg #[.bool ((rb (1 : Rat).num)), .slice p27_1 ((words (1 : Rat).num.natAbs).length) p27_c1, .slice p27_2 ((words (1 : Rat).den).length) p27_c2, .bool false, .slice p27_3 0 p27_c3, .slice p27_4 1 p27_c4])] ∧ St w w1 [(g31, [.bool ((rb P.num)), .slice po1 ((words P.num.natAbs).length) poc1, .slice po2 ((words P.den).length) poc2, .bool false, .slice p27_3 0 p27_c3, .slice p27_4 1 p27_c4]), (g4, [.bool false, .slice none 0 0, .slice none 0 0, .bool false, .slice none 0 0, .slice none 0 0]), (g2, [.bool (rb u.num), .slice a1 ((words u.num.natAbs).length) ac1, .slice a2 ((words u.den).length) ac2, .bool (rb v.num), .slice a3 ((words v.num.natAbs).length) ac3, .slice a4 ((words v.den).length) ac4])] [(po1, words P.num.natAbs), (po2, words P.den), (p27_4, [1]), (p27_3, []), (p27_2, words (1 : Rat).den), (p27_1, words (1 : Rat).num.natAbs), (a4, words v.den), (a3, words v.num.natAbs), (a2, words u.den), (a1, words u.num.natAbs)] []) _ ⟨0, 1, p27_1, p27_c1, p27_2, p27_c2, rfl, ⟨by omega, rfl, rfl, len_one, (Rat.pow_zero u).symm, (by decide), ⟨hn28.s1.nil, hn28.s1.cap⟩, ⟨hn28.s2.nil, hn28.s2.cap⟩⟩, hA.keep _ ⟨rfl, rfl, rfl, rfl, rfl, rfl, rfl, rfl, rfl, rfl, rfl, rfl, rfl, rfl, rfl, rfl, rfl, rfl, rfl, rfl, rfl, rfl, rfl, trivial⟩, ((hS.pickR [(p27_1, words (1 : Rat).num.natAbs), (p27_2, words (1 : Rat).den), (p27_4, [1]), (p27_3, []), (p27_2, words (1 : Rat).den), (p27_1, words (1 : Rat).num.natAbs), (a4, words v.den), (a3, words v.num.natAbs), (a2, words u.den), (a1, words u.num.natAbs)] ⟨⟨3, rfl⟩, ⟨⟨2, rfl⟩, ⟨⟨0, rfl⟩, ⟨⟨1, rfl⟩, ⟨⟨2, rfl⟩, ⟨⟨3, rfl⟩, ⟨⟨4, rfl⟩, ⟨⟨5, rfl⟩, ⟨⟨6, rfl⟩, ⟨⟨7, rfl⟩, trivial⟩⟩⟩⟩⟩⟩⟩⟩⟩⟩).subL _ (.refl _))⟩ ?_
   clear hS hA
   rintro m a w36 ⟨i, P, po1, poc1, po2, poc2, rfl, hinv38, hA, hS⟩ K37 hK37
   obtain ⟨hi9, hp9, hB9, LP, hPw, hPs, kn1, kn2⟩ := hinv38
   have hq9 := rpow_num hPw
   have hn9 : P.num.natAbs * u.num.natAbs = (P * u).num.natAbs := by rw [hq9.1, Int.natAbs_mul]
   have hd9 : P.den * u.den = (P * u).den := hq9.2.symm
   have l9a := LP.1
   have l9b := LP.2
   have l9c := LU.1
   have l9d := LU.2
   have LPu : LenR 9000 (P * u) := (lenR_mul LP LU).mono (by decide)
   have hs9 : pwR u v (i + 1) = (P * u, 0) := by
     show ((pwR u v i).1 * u - (pwR u v i).2 * v, (pwR u v i).1 * v + (pwR u v i).2 * u) = (P * u, 0)
     rw [hp9, hv0]
     congr 1 <;> grind
   have hPu : P * u = u ^ (i + 1) := by rw [hPw, Rat.pow_succ]
   have hsg9 : rb (P * u).num = !rb P.num := by rw [hq9.1]; exact rb_flip hsu hPs
   refine wp_seq_k (fun K39 hK39 => ?_)
   refine wp_seq_k (fun K40 hK40 => ?_)
   refine wp_region_lit ?_
   refine seq_do hA rfl rfl rfl (d_move rfl) ?_
   intro a hA
   refine seq_do hA rfl rfl rfl (d_move rfl) ?_
   intro a hA
   rcases Bool.eq_false_or_eq_true (decide (((i : Nat) : Int) < ((N : Nat) : Int))) with hb41 | hb41
   · have hb41' := of_decide_eq_true hb41
     refine seq_do (v := .bool true) hA rfl rfl rfl (d_bin rfl rfl (fun w => (bin_lss w).trans (by rw [hb41]))) ?_
     intro a hA
     refine seq_end ?_
     refine hK40 _ _ ?_
     refine wp_cond_true (hA.ev rfl) ?_
     refine wp_skip ?_
     refine hK39 _ _ ?_
     refine wp_seq_k (fun K42 hK42 => ?_)
     refine wp_block ?_
     refine wp_seq_k (fun K43 hK43 => ?_)
     refine wp_seq_k (fun K44 hK44 => ?_)
     refine wp_region_lit ?_
     refine seq_do hA rfl rfl rfl (d_loadS hS SmG_isS_26 rfl 2 rfl (cs := [.bool (rb u.num), .slice a1 ((words u.num.natAbs).length) ac1, .slice a2 ((words u.den).length) ac2, .bool (rb v.num), .slice a3 ((words v.num.natAbs).length) ac3, .slice a4 ((words v.den).length) ac4]) rfl rfl) ?_
     intro a hA
     rcases Bool.eq_false_or_eq_true ((rb P.num)) with hb45 | hb45
     · refine seq_call hA rfl rfl rfl (enters_func  rfl rfl (fun w => by kernel_rfl)) (rrealQ_any (show Nm _ (Q6.rat u v) a1 ac1 a2 ac2 a3 ac3 a4 ac4 from ⟨⟨(hS.rd 9 rfl), ha.s1.nil, ha.s1.cap⟩, ⟨(hS.rd 8 rfl), ha.s2.nil, ha.s2.cap⟩, ⟨(hS.rd 7 rfl), ha.s3.nil, ha.s3.cap⟩, ⟨(hS.rd 6 rfl), ha.s4.nil, ha.s4.cap⟩⟩) (lenQ_rat hu hv) k2) ?_
       rintro _ w47 ⟨rfl, hb46⟩
       replace hS := hS.call hb46
       refine ⟨_, rfl, ?_⟩
       intro a hA
       refine seq_end ?_
       refine hK44 _ _ ?_
       refine wp_cond_true (hA.ev rfl) ?_
       have hJ67 : ∀ a w1, (∃ (J59 : Option Addr) (J60 : Nat) (J61 : Option Addr) (J62 : Nat), Sl a 87 [(0, .agg #[.bool (rb u.num), .slice a1 ((words u.num.natAbs).length) ac1, .slice a2 ((words u.den).length) ac2, .bool (rb v.num), .slice a3 ((words v.num.natAbs).length) ac3, .slice a4 ((words v.den).length) ac4]), (1, .int .i64 (((N : Nat) : Int))), (2, .pointer (some ⟨g2, 0, none⟩)), (4, .pointer (some ⟨g4, 0, none⟩)), (6, .int .i64 (((N : Nat) : Int))), (7, .pointer (some ⟨g31, 0, none⟩)), (8, .int .i64 (((i : Nat) : Int))), (9, .agg #[.bool (rb u.num), .slice a1 ((words u.num.natAbs).length) ac1, .slice a2 ((words u.den).length) ac2, .bool (rb v.num), .slice a3 ((words v.num.natAbs).length) ac3, .slice a4 ((words v.den).length) ac4]), (10, .bool true), (11, .bool false), (13, .int .i64 (((N : Nat) : Int))), (14, .bool false), (15, .bool false), (16, .int .i64 (((N : Nat) : Int))), (17, .bool false), (18, .bool false), (20, .int .i64 (((N : Nat) : Int))), (21, .bool false), (28, .bool false), (30, .int .i64 (((N : Nat) : Int))), (31, .int .i64 (((N : Nat) : Int))), (32, .bool false), (35, .agg #[.bool ((rb (1 : Rat).num)), .slice p27_1 ((words (1 : Rat).num.natAbs).length) p27_c1, .slice p27_2 ((words (1 : Rat).den).length) p27_c2, .bool false, .slice p27_3 0 p27_c3, .slice p27_4 1 p27_c4]), (36, .int .i64 (((i : Nat) : Int))), (37, .int .i64 (((N : Nat) : Int))), (38, .bool true), (41, .agg #[.bool (rb u.num), .slice a1 ((words u.num.natAbs).length) ac1, .slice a2 ((words u.den).length) ac2, .bool (rb v.num), .slice a3 ((words v.num.natAbs).length) ac3, .slice a4 ((words v.den).length) ac4]), (42, .bool true)] ∧ St w w1 [(g31, [.bool ((rb (P * u).num)), .slice J59 ((words (P * u).num.natAbs).length) J60, .slice J61 ((words (P * u).den).length) J62, .bool false, .slice p27_3 0 p27_c3, .slice p27_4 1 p27_c4]), (g4, [.bool false, .slice none 0 0, .slice none 0 0, .bool false, .slice none 0 0, .slice none 0 0]), (g2, [.bool (rb u.num), .slice a1 ((words u.num.natAbs).length) ac1, .slice a2 ((words u.den).length) ac2, .bool (rb v.num), .slice a3 ((words v.num.natAbs).length) ac3, .slice a4 ((words v.den).length) ac4])] [(J61, words (P * u).den), (J59, words (P * u).num.natAbs), (po1, words P.num.natAbs), (po2, words P.den), (p27_4, [1]), (p27_3, []), (p27_2, words (1 : Rat).den), (p27_1, words (1 : Rat).num.natAbs), (a4, words v.den), (a3, words v.num.natAbs), (a2, words u.den), (a1, words u.num.natAbs)] [] ∧ (J61 = none → J62 = 0) ∧ (words (P * u).den : List Nat).length ≤ J62 ∧ (J59 = none → J60 = 0) ∧ (words (P * u).num.natAbs : List Nat).length ≤ J60) → K43 a w1 := by
         clear hA hS
         rintro a w68 ⟨J59, J60, J61, J62, hA, hS, hn63, hc64, hn65, hc66⟩
         refine hK43 _ _ ?_
         refine wp_seq_k (fun K69 hK69 => ?_)
         refine wp_region_lit ?_
         refine seq_do hA rfl rfl rfl (d_loadS hS SmG_isS_26 rfl 0 rfl (cs := [.bool ((rb (P * u).num)), .slice J59 ((words (P * u).num.natAbs).length) J60, .slice J61 ((words (P * u).den).length) J62, .bool false, .slice p27_3 0 p27_c3, .slice p27_4 1 p27_c4]) rfl rfl) ?_
         intro a hA
         rcases Bool.eq_false_or_eq_true (decide (¬ (fitR (P * u) ∧ fitR 0))) with hb70 | hb70
         · have hb70' := of_decide_eq_true hb70
           refine seq_call hA rfl rfl rfl (enters_func  rfl rfl (fun w => by kernel_rfl)) (rlarge0_any (show Nm _ (Q6.real (P * u)) J59 J60 J61 J62 p27_3 p27_c3 p27_4 p27_c4 from ⟨⟨(hS.rd 1 rfl), hn65, hc66⟩, ⟨(hS.rd 0 rfl), hn63, hc64⟩, ⟨(hS.rd 5 rfl), hn28.s3.nil, hn28.s3.cap⟩, ⟨(hS.rd 4 rfl), hn28.s4.nil, hn28.s4.cap⟩⟩) LPu hb70) ?_
           rintro _ w72 ⟨rfl, hb71⟩
           replace hS := hS.call hb71
           refine ⟨_, rfl, ?_⟩
           intro a hA
           refine seq_end ?_
           refine hK69 _ _ ?_
           refine wp_cond_true (hA.ev rfl) ?_
           refine wp_seq_k (fun K73 hK73 => ?_)
           refine wp_region_lit ?_
           refine seq_do (v := .agg #[.bool false, .slice none 0 0, .slice none 0 0, .bool false, .slice none 0 0, .slice none 0 0]) hA rfl rfl rfl (d_build rfl (fun w => by kernel_rfl)) ?_
           intro a hA
           refine seq_store (us := [.bool false, .slice none 0 0, .slice none 0 0, .bool false, .slice none 0 0, .slice none 0 0]) hA hS rfl rfl (sets_store rfl rfl rfl (by kernel_rfl) hS 1 rfl rfl rfl) 1 rfl rfl rfl rfl ?_
           intro w74 hS
           refine seq_do hA rfl rfl rfl (d_assign rfl) ?_
           intro a hA
           refine seq_end ?_
           refine hK73 _ _ ?_
           refine wp_ret ?_
           refine hret _ _ ?_
           refine ends (v := .tuple #[.agg #[.bool false, .slice none 0 0, .slice none 0 0, .bool false, .slice none 0 0, .slice none 0 0], .int .i64 4]) hA rfl (.cons (res_cell hS SmG_isS_26 rfl 1 rfl (cs := [.bool false, .slice none 0 0, .slice none 0 0, .bool false, .slice none 0 0, .slice none 0 0]) rfl rfl) (.cons (res_tmp rfl) .nil)) rfl ?_
           rw [exptQ_pos hu hv h1 h2, if_neg (by rw [(pwB_stop (k := i + 1) (by omega) (by have h7 := of_decide_eq_true hb70; rw [hs9]; exact h7))]; decide)]
           exact ⟨none, 0, none, 0, none, 0, none, 0, rfl, ⟨(Sc.none _), (Sc.none _), (Sc.none _), (Sc.none _)⟩, hS.bel⟩
         · have hb70' := of_decide_eq_false hb70
           refine seq_call hA rfl rfl rfl (enters_func  rfl rfl (fun w => by kernel_rfl)) (rlarge0_any (show Nm _ (Q6.real (P * u)) J59 J60 J61 J62 p27_3 p27_c3 p27_4 p27_c4 from ⟨⟨(hS.rd 1 rfl), hn65, hc66⟩, ⟨(hS.rd 0 rfl), hn63, hc64⟩, ⟨(hS.rd 5 rfl), hn28.s3.nil, hn28.s3.cap⟩, ⟨(hS.rd 4 rfl), hn28.s4.nil, hn28.s4.cap⟩⟩) LPu hb70) ?_
           rintro _ w76 ⟨rfl, hb75⟩
           replace hS := hS.call hb75
           refine ⟨_, rfl, ?_⟩
           intro a hA
           refine seq_end ?_
           refine hK69 _ _ ?_
           refine wp_cond_false (hA.ev rfl) ?_
           refine wp_skip ?_
           refine hK42 _ _ ?_
           refine wp_region_lit ?_
           refine seq_do hA rfl rfl rfl (d_move rfl) ?_
           intro a hA
           refine seq_do (v := .int .i64 (((i + 1 : Nat) : Int))) hA rfl rfl rfl (d_bin rfl rfl (fun w => (bin_add (i64In (by omega) (by omega)) w).trans (by rw [show (((i : Nat) : Int) + 1 : Int) = ((i + 1 : Nat) : Int) from by omega]))) ?_
           intro a hA
           refine seq_do hA rfl rfl rfl (d_assign rfl) ?_
           intro a hA
           refine seq_end ?_
           refine hK37 _ _ _ (by omega) ⟨i + 1, (P * u), J59, J60, J61, J62, rfl, ⟨by omega, hs9, pwB_step hB9 (by rw [hs9]; exact (Decidable.not_not.1 (of_decide_eq_false hb70)).1) (by rw [hs9]; exact fit_zero), fit_lenR (Decidable.not_not.1 (of_decide_eq_false hb70)).1, hPu, (by rw [hPu]; exact pow_num_ne (by have h7 := of_decide_eq_true hsu; omega) _), ⟨hn65, hc66⟩, ⟨hn63, hc64⟩⟩, hA.keep _ ⟨rfl, rfl, rfl, rfl, rfl, rfl, rfl, rfl, rfl, rfl, rfl, rfl, rfl, rfl, rfl, rfl, rfl, rfl, rfl, rfl, rfl, rfl, rfl, trivial⟩, ((hS.pickR [(J59, words (P * u).num.natAbs), (J61, words (P * u).den), (p27_4, [1]), (p27_3, []), (p27_2, words (1 : Rat).den), (p27_1, words (1 : Rat).num.natAbs), (a4, words v.den), (a3, words v.num.natAbs), (a2, words u.den), (a1, words u.num.natAbs)] ⟨⟨1, rfl⟩, ⟨⟨0, rfl⟩, ⟨⟨4, rfl⟩, ⟨⟨5, rfl⟩, ⟨⟨6, rfl⟩, ⟨⟨7, rfl⟩, ⟨⟨8, rfl⟩, ⟨⟨9, rfl⟩, ⟨⟨10, rfl⟩, ⟨⟨11, rfl⟩, trivial⟩⟩⟩⟩⟩⟩⟩⟩⟩⟩).subL _ (.refl _))⟩
       refine wp_draw (S := fun w1 => St w w1 [(g4, [.bool false, .slice none 0 0, .slice none 0 0, .bool false, .slice none 0 0, .slice none 0 0]), (g2, [.bool (rb u.num), .slice a1 ((words u.num.natAbs).length) ac1, .slice a2 ((words u.den).length) ac2, .bool (rb v.num), .slice a3 ((words v.num.natAbs).length) ac3, .slice a4 ((words v.den).length) ac4])] [(po1, words P.num.natAbs), (po2, words P.den), (p27_4, [1]), (p27_3, []), (p27_2, words (1 : Rat).den), (p27_1, words (1 : Rat).num.natAbs), (a4, words v.den), (a3, words v.num.natAbs), (a2, words u.den), (a1, words u.num.natAbs)] []) (by kernel_rfl) ?_
       replace hS := hS.drew
       refine any_tk (v := .pointer (some ⟨g31, 0, none⟩)) hA 0 rfl rfl rfl rfl hP (hS.partD (.cons _ (.cons_cons _ (.cons_cons _ .slnil))) 0 rfl (.refl _)) (fun w1 hS => d_field SmG_fld_26_0 rfl rfl) ?_
       intro a hA
       refine any_tk (v := .pointer (some ⟨g31, 0, none⟩)) hA 1 rfl rfl rfl rfl hP (hS.partD (.cons _ (.cons_cons _ (.cons_cons _ .slnil))) 0 rfl (.refl _)) (fun w1 hS => d_field SmG_fld_24_0 rfl rfl) ?_
       intro a hA
       refine any_tk (v := .pointer (some ⟨g2, 0, none⟩)) hA 3 rfl rfl rfl rfl hP (hS.partD (.cons _ (.cons_cons _ (.cons_cons _ .slnil))) 0 rfl (.refl _)) (fun w1 hS => d_field SmG_fld_26_0 rfl rfl) ?_
       intro a hA
       refine any_tk (v := .pointer (some ⟨g2, 0, none⟩)) hA 4 rfl rfl rfl rfl hP (hS.partD (.cons _ (.cons_cons _ (.cons_cons _ .slnil))) 0 rfl (.refl _)) (fun w1 hS => d_field SmG_fld_24_0 rfl rfl) ?_
       intro a hA
       refine any_tk hA 5 rfl rfl rfl rfl hP (hS.partD (.cons _ (.cons_cons _ (.cons_cons _ .slnil))) 0 rfl (.refl _)) (fun w1 hS => d_load1 hS SmG_is1_4 rfl 1 rfl rfl) ?_
       intro a hA
       refine any_tk (v := .pointer (some ⟨g31, 0, none⟩)) hA 14 rfl rfl rfl rfl hP (hS.partD (.cons _ (.cons_cons _ (.cons_cons _ .slnil))) 0 rfl (.refl _)) (fun w1 hS => d_field SmG_fld_26_0 rfl rfl) ?_
       intro a hA
       refine any_tk (v := .pointer (some ⟨g31, 1, none⟩)) hA 15 rfl rfl rfl rfl hP (hS.partD (.cons _ (.cons_cons _ (.cons_cons _ .slnil))) 0 rfl (.refl _)) (fun w1 hS => d_field SmG_fld_24_1 rfl rfl) ?_
       intro a hA
       refine any_tk (v := .pointer (some ⟨g2, 0, none⟩)) hA 17 rfl rfl rfl rfl hP (hS.partD (.cons _ (.cons_cons _ (.cons_cons _ .slnil))) 0 rfl (.refl _)) (fun w1 hS => d_field SmG_fld_26_0 rfl rfl) ?_
       intro a hA
       refine any_tk (v := .pointer (some ⟨g2, 1, none⟩)) hA 18 rfl rfl rfl rfl hP (hS.partD (.cons _ (.cons_cons _ (.cons_cons _ .slnil))) 0 rfl (.refl _)) (fun w1 hS => d_field SmG_fld_24_1 rfl rfl) ?_
       intro a hA
       refine any_tk hA 19 rfl rfl rfl rfl hP (hS.partD (.cons _ (.cons_cons _ (.cons_cons _ .slnil))) 0 rfl (.refl _)) (fun w1 hS => d_load1 hS SmG_is1_22 rfl 1 rfl rfl) ?_
       intro a hA
       refine any_tk (v := .pointer (some ⟨g31, 0, none⟩)) hA 21 rfl rfl rfl rfl hP (hS.partD (.cons _ (.cons_cons _ (.cons_cons _ .slnil))) 0 rfl (.refl _)) (fun w1 hS => d_field SmG_fld_26_0 rfl rfl) ?_
       intro a hA
       refine any_tk (v := .pointer (some ⟨g31, 2, none⟩)) hA 22 rfl rfl rfl rfl hP (hS.partD (.cons _ (.cons_cons _ (.cons_cons _ .slnil))) 0 rfl (.refl _)) (fun w1 hS => d_field SmG_fld_24_2 rfl rfl) ?_
       intro a hA
       refine any_tk (v := .pointer (some ⟨g2, 0, none⟩)) hA 24 rfl rfl rfl rfl hP (hS.partD (.cons _ (.cons_cons _ (.cons_cons _ .slnil))) 0 rfl (.refl _)) (fun w1 hS => d_field SmG_fld_26_0 rfl rfl) ?_
       intro a hA
       refine any_tk (v := .pointer (some ⟨g2, 2, none⟩)) hA 25 rfl rfl rfl rfl hP (hS.partD (.cons _ (.cons_cons _ (.cons_cons _ .slnil))) 0 rfl (.refl _)) (fun w1 hS => d_field SmG_fld_24_2 rfl rfl) ?_
       intro a hA
       refine any_tk hA 26 rfl rfl rfl rfl hP (hS.partD (.cons _ (.cons_cons _ (.cons_cons _ .slnil))) 0 rfl (.refl _)) (fun w1 hS => d_load1 hS SmG_is1_22 rfl 1 rfl rfl) ?_
       intro a hA
       refine any_many (rs := [2, 16, 23]) (by kernel_rfl) (by simp) ⟨?_, ?_, ?_, trivial⟩
       · refine op_do hA 2 rfl rfl rfl rfl (d_load1 hS SmG_is1_4 rfl 0 rfl rfl) (hS.partD (.cons _ (.cons_cons _ (.cons_cons _ .slnil))) 0 rfl (.refl _)) ?_
         intro a hA
         refine any_tk (v := .bool false) hA 6 rfl rfl rfl rfl hP (hS.partD (.cons _ (.cons_cons _ (.cons_cons _ .slnil))) 0 rfl (.refl _)) (fun w1 hS => d_bin rfl rfl (fun w => ((bin_neqB Tryz.underlying4) w).trans (by rw [show (!((rb P.num) == rb u.num)) = false from (by rw [hb45, hsu]; rfl)]))) ?_
         intro a hA
         refine any_tk hA 7 rfl rfl rfl rfl hP (hS.partD (.cons _ (.cons_cons _ (.cons_cons _ .slnil))) 0 rfl (.refl _)) (fun w1 hS => d_move rfl) ?_
         intro a hA
         refine any_skip hA 8 rfl rfl rfl rfl (by kernel_rfl) (by kernel_rfl) (by kernel_rfl) (fun c a w h => hP c a _ _ w h) (hS.partD (.cons _ (.cons_cons _ (.cons_cons _ .slnil))) 0 rfl (.refl _)) ?_
         intro a hA
         refine any_skip hA 9 rfl rfl rfl rfl (by kernel_rfl) (by kernel_rfl) (by kernel_rfl) (fun c a w h => hP c a _ _ w h) (hS.partD (.cons _ (.cons_cons _ (.cons_cons _ .slnil))) 0 rfl (.refl _)) ?_
         intro a hA
         refine any_skip hA 10 rfl rfl rfl rfl (by kernel_rfl) (by kernel_rfl) (by kernel_rfl) (fun c a w h => hP c a _ _ w h) (hS.partD (.cons _ (.cons_cons _ (.cons_cons _ .slnil))) 0 rfl (.refl _)) ?_
         intro a hA
         refine any_skip hA 11 rfl rfl rfl rfl (by kernel_rfl) (by kernel_rfl) (by kernel_rfl) (fun c a w h => hP c a _ _ w h) (hS.partD (.cons _ (.cons_cons _ (.cons_cons _ .slnil))) 0 rfl (.refl _)) ?_
         intro a hA
         refine any_skip hA 12 rfl rfl rfl rfl (by kernel_rfl) (by kernel_rfl) (by kernel_rfl) (fun c a w h => hP c a _ _ w h) (hS.partD (.cons _ (.cons_cons _ (.cons_cons _ .slnil))) 0 rfl (.refl _)) ?_
         intro a hA
         refine any_tk (v := .bool ((rb (P * u).num))) hA 13 rfl rfl rfl rfl hP (hS.partD (.cons _ (.cons_cons _ (.cons_cons _ .slnil))) 0 rfl (.refl _)) (fun w1 hS => d_pick rfl rfl rfl (by rw [hsg9, hb45]; rfl)) ?_
         intro a hA
         refine any_many (rs := [16, 23]) (by kernel_rfl) (by simp) ⟨?_, ?_, trivial⟩
         · refine op_do hA 16 rfl rfl rfl rfl (d_load1 hS SmG_is1_22 rfl 0 rfl rfl) (hS.partD (.cons _ (.cons_cons _ (.cons_cons _ .slnil))) 0 rfl (.refl _)) ?_
           intro a hA
           refine any_many (rs := [20, 23]) (by kernel_rfl) (by simp) ⟨?_, ?_, trivial⟩
           · refine op_call hA 20 rfl rfl rfl rfl (enters_func  rfl rfl (fun w => by kernel_rfl)) (rtimes_as hn9 _ _ (hS.rd 0 rfl) (hS.rd 9 rfl) (by omega) (by omega)) ?_
             rintro _ w81 ⟨ro77, rc78, rfl, ho79, hb80⟩
             replace hS := hS.call hb80
             replace hS := hS.addR ho79.rd
             refine ⟨_, rfl, (hS.partD (.cons _ (.cons_cons _ (.cons_cons _ .slnil))) 1 rfl (.refl _)), ?_⟩
             intro a hA
             refine any_one (by kernel_rfl) (op_do hA 23 rfl rfl rfl rfl (d_load1 hS SmG_is1_22 rfl 0 rfl rfl) (hS.partD (.cons _ (.cons_cons _ (.cons_cons _ .slnil))) 1 rfl (.refl _)) ?_)
             intro a hA
             refine any_one (by kernel_rfl) (op_call hA 27 rfl rfl rfl rfl (enters_func  rfl rfl (fun w => by kernel_rfl)) (rtimes_as hd9 _ _ (hS.rd 2 rfl) (hS.rd 9 rfl) (by omega) (by omega)) ?_)
             rintro _ w86 ⟨ro82, rc83, rfl, ho84, hb85⟩
             replace hS := hS.call hb85
             replace hS := hS.addR ho84.rd
             refine ⟨_, rfl, (hS.partD (.cons _ (.cons_cons _ (.cons_cons _ .slnil))) 2 rfl (.refl _)), ?_⟩
             intro a hA
             refine any_tk (v := .agg #[.bool ((rb (P * u).num)), .slice ro77 ((words (P * u).num.natAbs).length) rc78, .slice ro82 ((words (P * u).den).length) rc83]) hA 28 rfl rfl rfl rfl hP (hS.partD (.cons _ (.cons_cons _ (.cons_cons _ .slnil))) 2 rfl (.refl _)) (fun w1 hS => d_build rfl (fun w => by kernel_rfl)) ?_
             intro a hA
             refine any_tk (v := .pointer (some ⟨g31, 0, none⟩)) hA 29 rfl rfl rfl rfl hP (hS.partD (.cons _ (.cons_cons _ (.cons_cons _ .slnil))) 2 rfl (.refl _)) (fun w1 hS => d_field SmG_fld_26_0 rfl rfl) ?_
             intro a hA
             refine any_one (by kernel_rfl) (op_store (us := [.bool ((rb (P * u).num)), .slice ro77 ((words (P * u).num.natAbs).length) rc78, .slice ro82 ((words (P * u).den).length) rc83, .bool false, .slice p27_3 0 p27_c3, .slice p27_4 1 p27_c4]) hA hS 30 rfl rfl rfl (sets_store rfl rfl rfl (by kernel_rfl) hS 0 rfl rfl rfl) 0 rfl rfl rfl rfl ?_)
             intro w87 hS
             refine ⟨(hS.partD (.cons _ (.cons_cons _ (.cons_cons _ .slnil))) 2 rfl (.refl _)), ?_⟩
             refine any_end (by kernel_rfl) ?_
             refine hJ67 _ _ ⟨ro77, rc78, ro82, rc83, hA.keep _ ⟨rfl, rfl, rfl, rfl, rfl, rfl, rfl, rfl, rfl, rfl, rfl, rfl, rfl, rfl, rfl, rfl, rfl, rfl, rfl, rfl, rfl, rfl, rfl, rfl, rfl, rfl, rfl, rfl, trivial⟩, (St.pickRL hS ⟨⟨0, rfl⟩, ⟨⟨1, rfl⟩, ⟨⟨2, rfl⟩, ⟨⟨3, rfl⟩, ⟨⟨4, rfl⟩, ⟨⟨5, rfl⟩, ⟨⟨6, rfl⟩, ⟨⟨7, rfl⟩, ⟨⟨8, rfl⟩, ⟨⟨9, rfl⟩, ⟨⟨10, rfl⟩, ⟨⟨11, rfl⟩, trivial⟩⟩⟩⟩⟩⟩⟩⟩⟩⟩⟩⟩ [0, 1, 2] rfl (by decide)), ho84.nocap, ho84.caps, ho79.nocap, ho79.caps⟩
           · refine op_do hA 23 rfl rfl rfl rfl (d_load1 hS SmG_is1_22 rfl 0 rfl rfl) (hS.partD (.cons _ (.cons_cons _ (.cons_cons _ .slnil))) 0 rfl (.refl _)) ?_
             intro a hA
             refine any_one (by kernel_rfl) (op_call hA 20 rfl rfl rfl rfl (enters_func  rfl rfl (fun w => by kernel_rfl)) (rtimes_as hn9 _ _ (hS.rd 0 rfl) (hS.rd 9 rfl) (by omega) (by omega)) ?_)
             rintro _ w92 ⟨ro88, rc89, rfl, ho90, hb91⟩
             replace hS := hS.call hb91
             replace hS := hS.addR ho90.rd
             refine ⟨_, rfl, (hS.partD (.cons _ (.cons_cons _ (.cons_cons _ .slnil))) 1 rfl (.refl _)), ?_⟩
             intro a hA
             refine any_one (by kernel_rfl) (op_call hA 27 rfl rfl rfl rfl (enters_func  rfl rfl (fun w => by kernel_rfl)) (rtimes_as hd9 _ _ (hS.rd 2 rfl) (hS.rd 9 rfl) (by omega) (by omega)) ?_)
             rintro _ w97 ⟨ro93, rc94, rfl, ho95, hb96⟩
             replace hS := hS.call hb96
             replace hS := hS.addR ho95.rd
             refine ⟨_, rfl, (hS.partD (.cons _ (.cons_cons _ (.cons_cons _ .slnil))) 2 rfl (.refl _)), ?_⟩
             intro a hA
             refine any_tk (v := .agg #[.bool ((rb (P * u).num)), .slice ro88 ((words (P * u).num.natAbs).length) rc89, .slice ro93 ((words (P * u).den).length) rc94]) hA 28 rfl rfl rfl rfl hP (hS.partD (.cons _ (.cons_cons _ (.cons_cons _ .slnil))) 2 rfl (.refl _)) (fun w1 hS => d_build rfl (fun w => by kernel_rfl)) ?_
             intro a hA
             refine any_tk (v := .pointer (some ⟨g31, 0, none⟩)) hA 29 rfl rfl rfl rfl hP (hS.partD (.cons _ (.cons_cons _ (.cons_cons _ .slnil))) 2 rfl (.refl _)) (fun w1 hS => d_field SmG_fld_26_0 rfl rfl) ?_
             intro a hA
             refine any_one (by kernel_rfl) (op_store (us := [.bool ((rb (P * u).num)), .slice ro88 ((words (P * u).num.natAbs).length) rc89, .slice ro93 ((words (P * u).den).length) rc94, .bool false, .slice p27_3 0 p27_c3, .slice p27_4 1 p27_c4]) hA hS 30 rfl rfl rfl (sets_store rfl rfl rfl (by kernel_rfl) hS 0 rfl rfl rfl) 0 rfl rfl rfl rfl ?_)
             intro w98 hS
             refine ⟨(hS.partD (.cons _ (.cons_cons _ (.cons_cons _ .slnil))) 2 rfl (.refl _)), ?_⟩
             refine any_end (by kernel_rfl) ?_
             refine hJ67 _ _ ⟨ro88, rc89, ro93, rc94, hA.keep _ ⟨rfl, rfl, rfl, rfl, rfl, rfl, rfl, rfl, rfl, rfl, rfl, rfl, rfl, rfl, rfl, rfl, rfl, rfl, rfl, rfl, rfl, rfl, rfl, rfl, rfl, rfl, rfl, rfl, trivial⟩, (St.pickRL hS ⟨⟨0, rfl⟩, ⟨⟨1, rfl⟩, ⟨⟨2, rfl⟩, ⟨⟨3, rfl⟩, ⟨⟨4, rfl⟩, ⟨⟨5, rfl⟩, ⟨⟨6, rfl⟩, ⟨⟨7, rfl⟩, ⟨⟨8, rfl⟩, ⟨⟨9, rfl⟩, ⟨⟨10, rfl⟩, ⟨⟨11, rfl⟩, trivial⟩⟩⟩⟩⟩⟩⟩⟩⟩⟩⟩⟩ [0, 1, 2] rfl (by decide)), ho95.nocap, ho95.caps, ho90.nocap, ho90.caps⟩
         · refine op_do hA 23 rfl rfl rfl rfl (d_load1 hS SmG_is1_22 rfl 0 rfl rfl) (hS.partD (.cons _ (.cons_cons _ (.cons_cons _ .slnil))) 0 rfl (.refl _)) ?_
           intro a hA
           refine any_one (by kernel_rfl) (op_do hA 16 rfl rfl rfl rfl (d_load1 hS SmG_is1_22 rfl 0 rfl rfl) (hS.partD (.cons _ (.cons_cons _ (.cons_cons _ .slnil))) 0 rfl (.refl _)) ?_)
           intro a hA
           refine any_one (by kernel_rfl) (op_call hA 20 rfl rfl rfl rfl (enters_func  rfl rfl (fun w => by kernel_rfl)) (rtimes_as hn9 _ _ (hS.rd 0 rfl) (hS.rd 9 rfl) (by omega) (by omega)) ?_)
           rintro _ w103 ⟨ro99, rc100, rfl, ho101, hb102⟩
           replace hS := hS.call hb102
           replace hS := hS.addR ho101.rd
           refine ⟨_, rfl, (hS.partD (.cons _ (.cons_cons _ (.cons_cons _ .slnil))) 1 rfl (.refl _)), ?_⟩
           intro a hA
           refine any_one (by kernel_rfl) (op_call hA 27 rfl rfl rfl rfl (enters_func  rfl rfl (fun w => by kernel_rfl)) (rtimes_as hd9 _ _ (hS.rd 2 rfl) (hS.rd 9 rfl) (by omega) (by omega)) ?_)
           rintro _ w108 ⟨ro104, rc105, rfl, ho106, hb107⟩
           replace hS := hS.call hb107
           replace hS := hS.addR ho106.rd
           refine ⟨_, rfl, (hS.partD (.cons _ (.cons_cons _ (.cons_cons _ .slnil))) 2 rfl (.refl _)), ?_⟩
           intro a hA
           refine any_tk (v := .agg #[.bool ((rb (P * u).num)), .slice ro99 ((words (P * u).num.natAbs).length) rc100, .slice ro104 ((words (P * u).den).length) rc105]) hA 28 rfl rfl rfl rfl hP (hS.partD (.cons _ (.cons_cons _ (.cons_cons _ .slnil))) 2 rfl (.refl _)) (fun w1 hS => d_build rfl (fun w => by kernel_rfl)) ?_
           intro a hA
           refine any_tk (v := .pointer (some ⟨g31, 0, none⟩)) hA 29 rfl rfl rfl rfl hP (hS.partD (.cons _ (.cons_cons _ (.cons_cons _ .slnil))) 2 rfl (.refl _)) (fun w1 hS => d_field SmG_fld_26_0 rfl rfl) ?_
           intro a hA
           refine any_one (by kernel_rfl) (op_store (us := [.bool ((rb (P * u).num)), .slice ro99 ((words (P * u).num.natAbs).length) rc100, .slice ro104 ((words (P * u).den).length) rc105, .bool false, .slice p27_3 0 p27_c3, .slice p27_4 1 p27_c4]) hA hS 30 rfl rfl rfl (sets_store rfl rfl rfl (by kernel_rfl) hS 0 rfl rfl rfl) 0 rfl rfl rfl rfl ?_)
           intro w109 hS
           refine ⟨(hS.partD (.cons _ (.cons_cons _ (.cons_cons _ .slnil))) 2 rfl (.refl _)), ?_⟩
           refine any_end (by kernel_rfl) ?_
           refine hJ67 _ _ ⟨ro99, rc100, ro104, rc105, hA.keep _ ⟨rfl, rfl, rfl, rfl, rfl, rfl, rfl, rfl, rfl, rfl, rfl, rfl, rfl, rfl, rfl, rfl, rfl, rfl, rfl, rfl, rfl, rfl, rfl, rfl, rfl, rfl, rfl, rfl, trivial⟩, (St.pickRL hS ⟨⟨0, rfl⟩, ⟨⟨1, rfl⟩, ⟨⟨2, rfl⟩, ⟨⟨3, rfl⟩, ⟨⟨4, rfl⟩, ⟨⟨5, rfl⟩, ⟨⟨6, rfl⟩, ⟨⟨7, rfl⟩, ⟨⟨8, rfl⟩, ⟨⟨9, rfl⟩, ⟨⟨10, rfl⟩, ⟨⟨11, rfl⟩, trivial⟩⟩⟩⟩⟩⟩⟩⟩⟩⟩⟩⟩ [0, 1, 2] rfl (by decide)), ho106.nocap, ho106.caps, ho101.nocap, ho101.caps⟩
       · refine op_do hA 16 rfl rfl rfl rfl (d_load1 hS SmG_is1_22 rfl 0 rfl rfl) (hS.partD (.cons _ (.cons_cons _ (.cons_cons _ .slnil))) 0 rfl (.refl _)) ?_
         intro a hA
         refine any_many (rs := [2, 23]) (by kernel_rfl) (by simp) ⟨?_, ?_, trivial⟩
         · refine op_do hA 2 rfl rfl rfl rfl (d_load1 hS SmG_is1_4 rfl 0 rfl rfl) (hS.partD (.cons _ (.cons_cons _ (.cons_cons _ .slnil))) 0 rfl (.refl _)) ?_
           intro a hA
           refine any_tk (v := .bool false) hA 6 rfl rfl rfl rfl hP (hS.partD (.cons _ (.cons_cons _ (.cons_cons _ .slnil))) 0 rfl (.refl _)) (fun w1 hS => d_bin rfl rfl (fun w => ((bin_neqB Tryz.underlying4) w).trans (by rw [show (!((rb P.num) == rb u.num)) = false from (by rw [hb45, hsu]; rfl)]))) ?_
           intro a hA
           refine any_tk hA 7 rfl rfl rfl rfl hP (hS.partD (.cons _ (.cons_cons _ (.cons_cons _ .slnil))) 0 rfl (.refl _)) (fun w1 hS => d_move rfl) ?_
           intro a hA
           refine any_skip hA 8 rfl rfl rfl rfl (by kernel_rfl) (by kernel_rfl) (by kernel_rfl) (fun c a w h => hP c a _ _ w h) (hS.partD (.cons _ (.cons_cons _ (.cons_cons _ .slnil))) 0 rfl (.refl _)) ?_
           intro a hA
           refine any_skip hA 9 rfl rfl rfl rfl (by kernel_rfl) (by kernel_rfl) (by kernel_rfl) (fun c a w h => hP c a _ _ w h) (hS.partD (.cons _ (.cons_cons _ (.cons_cons _ .slnil))) 0 rfl (.refl _)) ?_
           intro a hA
           refine any_skip hA 10 rfl rfl rfl rfl (by kernel_rfl) (by kernel_rfl) (by kernel_rfl) (fun c a w h => hP c a _ _ w h) (hS.partD (.cons _ (.cons_cons _ (.cons_cons _ .slnil))) 0 rfl (.refl _)) ?_
           intro a hA
           refine any_skip hA 11 rfl rfl rfl rfl (by kernel_rfl) (by kernel_rfl) (by kernel_rfl) (fun c a w h => hP c a _ _ w h) (hS.partD (.cons _ (.cons_cons _ (.cons_cons _ .slnil))) 0 rfl (.refl _)) ?_
           intro a hA
           refine any_skip hA 12 rfl rfl rfl rfl (by kernel_rfl) (by kernel_rfl) (by kernel_rfl) (fun c a w h => hP c a _ _ w h) (hS.partD (.cons _ (.cons_cons _ (.cons_cons _ .slnil))) 0 rfl (.refl _)) ?_
           intro a hA
           refine any_tk (v := .bool ((rb (P * u).num))) hA 13 rfl rfl rfl rfl hP (hS.partD (.cons _ (.cons_cons _ (.cons_cons _ .slnil))) 0 rfl (.refl _)) (fun w1 hS => d_pick rfl rfl rfl (by rw [hsg9, hb45]; rfl)) ?_
           intro a hA
           refine any_many (rs := [20, 23]) (by kernel_rfl) (by simp) ⟨?_, ?_, trivial⟩
           · refine op_call hA 20 rfl rfl rfl rfl (enters_func  rfl rfl (fun w => by kernel_rfl)) (rtimes_as hn9 _ _ (hS.rd 0 rfl) (hS.rd 9 rfl) (by omega) (by omega)) ?_
             rintro _ w114 ⟨ro110, rc111, rfl, ho112, hb113⟩
             replace hS := hS.call hb113
             replace hS := hS.addR ho112.rd
             refine ⟨_, rfl, (hS.partD (.cons _ (.cons_cons _ (.cons_cons _ .slnil))) 1 rfl (.refl _)), ?_⟩
             intro a hA
             refine any_one (by kernel_rfl) (op_do hA 23 rfl rfl rfl rfl (d_load1 hS SmG_is1_22 rfl 0 rfl rfl) (hS.partD (.cons _ (.cons_cons _ (.cons_cons _ .slnil))) 1 rfl (.refl _)) ?_)
             intro a hA
             refine any_one (by kernel_rfl) (op_call hA 27 rfl rfl rfl rfl (enters_func  rfl rfl (fun w => by kernel_rfl)) (rtimes_as hd9 _ _ (hS.rd 2 rfl) (hS.rd 9 rfl) (by omega) (by omega)) ?_)
             rintro _ w119 ⟨ro115, rc116, rfl, ho117, hb118⟩
             replace hS := hS.call hb118
             replace hS := hS.addR ho117.rd
             refine ⟨_, rfl, (hS.partD (.cons _ (.cons_cons _ (.cons_cons _ .slnil))) 2 rfl (.refl _)), ?_⟩
             intro a hA
             refine any_tk (v := .agg #[.bool ((rb (P * u).num)), .slice ro110 ((words (P * u).num.natAbs).length) rc111, .slice ro115 ((words (P * u).den).length) rc116]) hA 28 rfl rfl rfl rfl hP (hS.partD (.cons _ (.cons_cons _ (.cons_cons _ .slnil))) 2 rfl (.refl _)) (fun w1 hS => d_build rfl (fun w => by kernel_rfl)) ?_
             intro a hA
             refine any_tk (v := .pointer (some ⟨g31, 0, none⟩)) hA 29 rfl rfl rfl rfl hP (hS.partD (.cons _ (.cons_cons _ (.cons_cons _ .slnil))) 2 rfl (.refl _)) (fun w1 hS => d_field SmG_fld_26_0 rfl rfl) ?_
             intro a hA
             refine any_one (by kernel_rfl) (op_store (us := [.bool ((rb (P * u).num)), .slice ro110 ((words (P * u).num.natAbs).length) rc111, .slice ro115 ((words (P * u).den).length) rc116, .bool false, .slice p27_3 0 p27_c3, .slice p27_4 1 p27_c4]) hA hS 30 rfl rfl rfl (sets_store rfl rfl rfl (by kernel_rfl) hS 0 rfl rfl rfl) 0 rfl rfl rfl rfl ?_)
             intro w120 hS
             refine ⟨(hS.partD (.cons _ (.cons_cons _ (.cons_cons _ .slnil))) 2 rfl (.refl _)), ?_⟩
             refine any_end (by kernel_rfl) ?_
             refine hJ67 _ _ ⟨ro110, rc111, ro115, rc116, hA.keep _ ⟨rfl, rfl, rfl, rfl, rfl, rfl, rfl, rfl, rfl, rfl, rfl, rfl, rfl, rfl, rfl, rfl, rfl, rfl, rfl, rfl, rfl, rfl, rfl, rfl, rfl, rfl, rfl, rfl, trivial⟩, (St.pickRL hS ⟨⟨0, rfl⟩, ⟨⟨1, rfl⟩, ⟨⟨2, rfl⟩, ⟨⟨3, rfl⟩, ⟨⟨4, rfl⟩, ⟨⟨5, rfl⟩, ⟨⟨6, rfl⟩, ⟨⟨7, rfl⟩, ⟨⟨8, rfl⟩, ⟨⟨9, rfl⟩, ⟨⟨10, rfl⟩, ⟨⟨11, rfl⟩, trivial⟩⟩⟩⟩⟩⟩⟩⟩⟩⟩⟩⟩ [0, 1, 2] rfl (by decide)), ho117.nocap, ho117.caps, ho112.nocap, ho112.caps⟩
           · refine op_do hA 23 rfl rfl rfl rfl (d_load1 hS SmG_is1_22 rfl 0 rfl rfl) (hS.partD (.cons _ (.cons_cons _ (.cons_cons _ .slnil))) 0 rfl (.refl _)) ?_
             intro a hA
             refine any_one (by kernel_rfl) (op_call hA 20 rfl rfl rfl rfl (enters_func  rfl rfl (fun w => by kernel_rfl)) (rtimes_as hn9 _ _ (hS.rd 0 rfl) (hS.rd 9 rfl) (by omega) (by omega)) ?_)
             rintro _ w125 ⟨ro121, rc122, rfl, ho123, hb124⟩
             replace hS := hS.call hb124
             replace hS := hS.addR ho123.rd
             refine ⟨_, rfl, (hS.partD (.cons _ (.cons_cons _ (.cons_cons _ .slnil))) 1 rfl (.refl _)), ?_⟩
             intro a hA
             refine any_one (by kernel_rfl) (op_call hA 27 rfl rfl rfl rfl (enters_func  rfl rfl (fun w => by kernel_rfl)) (rtimes_as hd9 _ _ (hS.rd 2 rfl) (hS.rd 9 rfl) (by omega) (by omega)) ?_)
             rintro _ w130 ⟨ro126, rc127, rfl, ho128, hb129⟩
             replace hS := hS.call hb129
             replace hS := hS.addR ho128.rd
             refine ⟨_, rfl, (hS.partD (.cons _ (.cons_cons _ (.cons_cons _ .slnil))) 2 rfl (.refl _)), ?_⟩
             intro a hA
             refine any_tk (v := .agg #[.bool ((rb (P * u).num)), .slice ro121 ((words (P * u).num.natAbs).length) rc122, .slice ro126 ((words (P * u).den).length) rc127]) hA 28 rfl rfl rfl rfl hP (hS.partD (.cons _ (.cons_cons _ (.cons_cons _ .slnil))) 2 rfl (.refl _)) (fun w1 hS => d_build rfl (fun w => by kernel_rfl)) ?_
             intro a hA
             refine any_tk (v := .pointer (some ⟨g31, 0, none⟩)) hA 29 rfl rfl rfl rfl hP (hS.partD (.cons _ (.cons_cons _ (.cons_cons _ .slnil))) 2 rfl (.refl _)) (fun w1 hS => d_field SmG_fld_26_0 rfl rfl) ?_
             intro a hA
             refine any_one (by kernel_rfl) (op_store (us := [.bool ((rb (P * u).num)), .slice ro121 ((words (P * u).num.natAbs).length) rc122, .slice ro126 ((words (P * u).den).length) rc127, .bool false, .slice p27_3 0 p27_c3, .slice p27_4 1 p27_c4]) hA hS 30 rfl rfl rfl (sets_store rfl rfl rfl (by kernel_rfl) hS 0 rfl rfl rfl) 0 rfl rfl rfl rfl ?_)
             intro w131 hS
             refine ⟨(hS.partD (.cons _ (.cons_cons _ (.cons_cons _ .slnil))) 2 rfl (.refl _)), ?_⟩
             refine any_end (by kernel_rfl) ?_
             refine hJ67 _ _ ⟨ro121, rc122, ro126, rc127, hA.keep _ ⟨rfl, rfl, rfl, rfl, rfl, rfl, rfl, rfl, rfl, rfl, rfl, rfl, rfl, rfl, rfl, rfl, rfl, rfl, rfl, rfl, rfl, rfl, rfl, rfl, rfl, rfl, rfl, rfl, trivial⟩, (St.pickRL hS ⟨⟨0, rfl⟩, ⟨⟨1, rfl⟩, ⟨⟨2, rfl⟩, ⟨⟨3, rfl⟩, ⟨⟨4, rfl⟩, ⟨⟨5, rfl⟩, ⟨⟨6, rfl⟩, ⟨⟨7, rfl⟩, ⟨⟨8, rfl⟩, ⟨⟨9, rfl⟩, ⟨⟨10, rfl⟩, ⟨⟨11, rfl⟩, trivial⟩⟩⟩⟩⟩⟩⟩⟩⟩⟩⟩⟩ [0, 1, 2] rfl (by decide)), ho128.nocap, ho128.caps, ho123.nocap, ho123.caps⟩
         · refine op_do hA 23 rfl rfl rfl rfl (d_load1 hS SmG_is1_22 rfl 0 rfl rfl) (hS.partD (.cons _ (.cons_cons _ (.cons_cons _ .slnil))) 0 rfl (.refl _)) ?_
           intro a hA
           refine any_one (by kernel_rfl) (op_do hA 2 rfl rfl rfl rfl (d_load1 hS SmG_is1_4 rfl 0 rfl rfl) (hS.partD (.cons _ (.cons_cons _ (.cons_cons _ .slnil))) 0 rfl (.refl _)) ?_)
           intro a hA
           refine any_tk (v := .bool false) hA 6 rfl rfl rfl rfl hP (hS.partD (.cons _ (.cons_cons _ (.cons_cons _ .slnil))) 0 rfl (.refl _)) (fun w1 hS => d_bin rfl rfl (fun w => ((bin_neqB Tryz.underlying4) w).trans (by rw [show (!((rb P.num) == rb u.num)) = false from (by rw [hb45, hsu]; rfl)]))) ?_
           intro a hA
           refine any_tk hA 7 rfl rfl rfl rfl hP (hS.partD (.cons _ (.cons_cons _ (.cons_cons _ .slnil))) 0 rfl (.refl _)) (fun w1 hS => d_move rfl) ?_
           intro a hA
           refine any_skip hA 8 rfl rfl rfl rfl (by kernel_rfl) (by kernel_rfl) (by kernel_rfl) (fun c a w h => hP c a _ _ w h) (hS.partD (.cons _ (.cons_cons _ (.cons_cons _ .slnil))) 0 rfl (.refl _)) ?_
           intro a hA
           refine any_skip hA 9 rfl rfl rfl rfl (by kernel_rfl) (by kernel_rfl) (by kernel_rfl) (fun c a w h => hP c a _ _ w h) (hS.partD (.cons _ (.cons_cons _ (.cons_cons _ .slnil))) 0 rfl (.refl _)) ?_
           intro a hA
           refine any_skip hA 10 rfl rfl rfl rfl (by kernel_rfl) (by kernel_rfl) (by kernel_rfl) (fun c a w h => hP c a _ _ w h) (hS.partD (.cons _ (.cons_cons _ (.cons_cons _ .slnil))) 0 rfl (.refl _)) ?_
           intro a hA
           refine any_skip hA 11 rfl rfl rfl rfl (by kernel_rfl) (by kernel_rfl) (by kernel_rfl) (fun c a w h => hP c a _ _ w h) (hS.partD (.cons _ (.cons_cons _ (.cons_cons _ .slnil))) 0 rfl (.refl _)) ?_
           intro a hA
           refine any_skip hA 12 rfl rfl rfl rfl (by kernel_rfl) (by kernel_rfl) (by kernel_rfl) (fun c a w h => hP c a _ _ w h) (hS.partD (.cons _ (.cons_cons _ (.cons_cons _ .slnil))) 0 rfl (.refl _)) ?_
           intro a hA
           refine any_tk (v := .bool ((rb (P * u).num))) hA 13 rfl rfl rfl rfl hP (hS.partD (.cons _ (.cons_cons _ (.cons_cons _ .slnil))) 0 rfl (.refl _)) (fun w1 hS => d_pick rfl rfl rfl (by rw [hsg9, hb45]; rfl)) ?_
           intro a hA
           refine any_one (by kernel_rfl) (op_call hA 20 rfl rfl rfl rfl (enters_func  rfl rfl (fun w => by kernel_rfl)) (rtimes_as hn9 _ _ (hS.rd 0 rfl) (hS.rd 9 rfl) (by omega) (by omega)) ?_)
           rintro _ w136 ⟨ro132, rc133, rfl, ho134, hb135⟩
           replace hS := hS.call hb135
           replace hS := hS.addR ho134.rd
           refine ⟨_, rfl, (hS.partD (.cons _ (.cons_cons _ (.cons_cons _ .slnil))) 1 rfl (.refl _)), ?_⟩
           intro a hA
           refine any_one (by kernel_rfl) (op_call hA 27 rfl rfl rfl rfl (enters_func  rfl rfl (fun w => by kernel_rfl)) (rtimes_as hd9 _ _ (hS.rd 2 rfl) (hS.rd 9 rfl) (by omega) (by omega)) ?_)
           rintro _ w141 ⟨ro137, rc138, rfl, ho139, hb140⟩
           replace hS := hS.call hb140
           replace hS := hS.addR ho139.rd
           refine ⟨_, rfl, (hS.partD (.cons _ (.cons_cons _ (.cons_cons _ .slnil))) 2 rfl (.refl _)), ?_⟩
           intro a hA
           refine any_tk (v := .agg #[.bool ((rb (P * u).num)), .slice ro132 ((words (P * u).num.natAbs).length) rc133, .slice ro137 ((words (P * u).den).length) rc138]) hA 28 rfl rfl rfl rfl hP (hS.partD (.cons _ (.cons_cons _ (.cons_cons _ .slnil))) 2 rfl (.refl _)) (fun w1 hS => d_build rfl (fun w => by kernel_rfl)) ?_
           intro a hA
           refine any_tk (v := .pointer (some ⟨g31, 0, none⟩)) hA 29 rfl rfl rfl rfl hP (hS.partD (.cons _ (.cons_cons _ (.cons_cons _ .slnil))) 2 rfl (.refl _)) (fun w1 hS => d_field SmG_fld_26_0 rfl rfl) ?_
           intro a hA
           refine any_one (by kernel_rfl) (op_store (us := [.bool ((rb (P * u).num)), .slice ro132 ((words (P * u).num.natAbs).length) rc133, .slice ro137 ((words (P * u).den).length) rc138, .bool false, .slice p27_3 0 p27_c3, .slice p27_4 1 p27_c4]) hA hS 30 rfl rfl rfl (sets_store rfl rfl rfl (by kernel_rfl) hS 0 rfl rfl rfl) 0 rfl rfl rfl rfl ?_)
           intro w142 hS
           refine ⟨(hS.partD (.cons _ (.cons_cons _ (.cons_cons _ .slnil))) 2 rfl (.refl _)), ?_⟩
           refine any_end (by kernel_rfl) ?_
           refine hJ67 _ _ ⟨ro132, rc133, ro137, rc138, hA.keep _ ⟨rfl, rfl, rfl, rfl, rfl, rfl, rfl, rfl, rfl, rfl, rfl, rfl, rfl, rfl, rfl, rfl, rfl, rfl, rfl, rfl, rfl, rfl, rfl, rfl, rfl, rfl, rfl, rfl, trivial⟩, (St.pickRL hS ⟨⟨0, rfl⟩, ⟨⟨1, rfl⟩, ⟨⟨2, rfl⟩, ⟨⟨3, rfl⟩, ⟨⟨4, rfl⟩, ⟨⟨5, rfl⟩, ⟨⟨6, rfl⟩, ⟨⟨7, rfl⟩, ⟨⟨8, rfl⟩, ⟨⟨9, rfl⟩, ⟨⟨10, rfl⟩, ⟨⟨11, rfl⟩, trivial⟩⟩⟩⟩⟩⟩⟩⟩⟩⟩⟩⟩ [0, 1, 2] rfl (by decide)), ho139.nocap, ho139.caps, ho134.nocap, ho134.caps⟩
       · refine op_do hA 23 rfl rfl rfl rfl (d_load1 hS SmG_is1_22 rfl 0 rfl rfl) (hS.partD (.cons _ (.cons_cons _ (.cons_cons _ .slnil))) 0 rfl (.refl _)) ?_
         intro a hA
         refine any_many (rs := [2, 16]) (by kernel_rfl) (by simp) ⟨?_, ?_, trivial⟩
         · refine op_do hA 2 rfl rfl rfl rfl (d_load1 hS SmG_is1_4 rfl 0 rfl rfl) (hS.partD (.cons _ (.cons_cons _ (.cons_cons _ .slnil))) 0 rfl (.refl _)) ?_
           intro a hA
           refine any_tk (v := .bool false) hA 6 rfl rfl rfl rfl hP (hS.partD (.cons _ (.cons_cons _ (.cons_cons _ .slnil))) 0 rfl (.refl _)) (fun w1 hS => d_bin rfl rfl (fun w => ((bin_neqB Tryz.underlying4) w).trans (by rw [show (!((rb P.num) == rb u.num)) = false from (by rw [hb45, hsu]; rfl)]))) ?_
           intro a hA
           refine any_tk hA 7 rfl rfl rfl rfl hP (hS.partD (.cons _ (.cons_cons _ (.cons_cons _ .slnil))) 0 rfl (.refl _)) (fun w1 hS => d_move rfl) ?_
           intro a hA
           refine any_skip hA 8 rfl rfl rfl rfl (by kernel_rfl) (by kernel_rfl) (by kernel_rfl) (fun c a w h => hP c a _ _ w h) (hS.partD (.cons _ (.cons_cons _ (.cons_cons _ .slnil))) 0 rfl (.refl _)) ?_
           intro a hA
           refine any_skip hA 9 rfl rfl rfl rfl (by kernel_rfl) (by kernel_rfl) (by kernel_rfl) (fun c a w h => hP c a _ _ w h) (hS.partD (.cons _ (.cons_cons _ (.cons_cons _ .slnil))) 0 rfl (.refl _)) ?_
           intro a hA
           refine any_skip hA 10 rfl rfl rfl rfl (by kernel_rfl) (by kernel_rfl) (by kernel_rfl) (fun c a w h => hP c a _ _ w h) (hS.partD (.cons _ (.cons_cons _ (.cons_cons _ .slnil))) 0 rfl (.refl _)) ?_
           intro a hA
           refine any_skip hA 11 rfl rfl rfl rfl (by kernel_rfl) (by kernel_rfl) (by kernel_rfl) (fun c a w h => hP c a _ _ w h) (hS.partD (.cons _ (.cons_cons _ (.cons_cons _ .slnil))) 0 rfl (.refl _)) ?_
           intro a hA
           refine any_skip hA 12 rfl rfl rfl rfl (by kernel_rfl) (by kernel_rfl) (by kernel_rfl) (fun c a w h => hP c a _ _ w h) (hS.partD (.cons _ (.cons_cons _ (.cons_cons _ .slnil))) 0 rfl (.refl _)) ?_
           intro a hA
           refine any_tk (v := .bool ((rb (P * u).num))) hA 13 rfl rfl rfl rfl hP (hS.partD (.cons _ (.cons_cons _ (.cons_cons _ .slnil))) 0 rfl (.refl _)) (fun w1 hS => d_pick rfl rfl rfl (by rw [hsg9, hb45]; rfl)) ?_
           intro a hA
           refine any_one (by kernel_rfl) (op_do hA 16 rfl rfl rfl rfl (d_load1 hS SmG_is1_22 rfl 0 rfl rfl) (hS.partD (.cons _ (.cons_cons _ (.cons_cons _ .slnil))) 0 rfl (.refl _)) ?_)
           intro a hA
           refine any_one (by kernel_rfl) (op_call hA 20 rfl rfl rfl rfl (enters_func  rfl rfl (fun w => by kernel_rfl)) (rtimes_as hn9 _ _ (hS.rd 0 rfl) (hS.rd 9 rfl) (by omega) (by omega)) ?_)
           rintro _ w147 ⟨ro143, rc144, rfl, ho145, hb146⟩
           replace hS := hS.call hb146
           replace hS := hS.addR ho145.rd
           refine ⟨_, rfl, (hS.partD (.cons _ (.cons_cons _ (.cons_cons _ .slnil))) 1 rfl (.refl _)), ?_⟩
           intro a hA
           refine any_one (by kernel_rfl) (op_call hA 27 rfl rfl rfl rfl (enters_func  rfl rfl (fun w => by kernel_rfl)) (rtimes_as hd9 _ _ (hS.rd 2 rfl) (hS.rd 9 rfl) (by omega) (by omega)) ?_)
           rintro _ w152 ⟨ro148, rc149, rfl, ho150, hb151⟩
           replace hS := hS.call hb151
           replace hS := hS.addR ho150.rd
           refine ⟨_, rfl, (hS.partD (.cons _ (.cons_cons _ (.cons_cons _ .slnil))) 2 rfl (.refl _)), ?_⟩
           intro a hA
           refine any_tk (v := .agg #[.bool ((rb (P * u).num)), .slice ro143 ((words (P * u).num.natAbs).length) rc144, .slice ro148 ((words (P * u).den).length) rc149]) hA 28 rfl rfl rfl rfl hP (hS.partD (.cons _ (.cons_cons _ (.cons_cons _ .slnil))) 2 rfl (.refl _)) (fun w1 hS => d_build rfl (fun w => by kernel_rfl)) ?_
           intro a hA
           refine any_tk (v := .pointer (some ⟨g31, 0, none⟩)) hA 29 rfl rfl rfl rfl hP (hS.partD (.cons _ (.cons_cons _ (.cons_cons _ .slnil))) 2 rfl (.refl _)) (fun w1 hS => d_field SmG_fld_26_0 rfl rfl) ?_
           intro a hA
           refine any_one (by kernel_rfl) (op_store (us := [.bool ((rb (P * u).num)), .slice ro143 ((words (P * u).num.natAbs).length) rc144, .slice ro148 ((words (P * u).den).length) rc149, .bool false, .slice p27_3 0 p27_c3, .slice p27_4 1 p27_c4]) hA hS 30 rfl rfl rfl (sets_store rfl rfl rfl (by kernel_rfl) hS 0 rfl rfl rfl) 0 rfl rfl rfl rfl ?_)
           intro w153 hS
           refine ⟨(hS.partD (.cons _ (.cons_cons _ (.cons_cons _ .slnil))) 2 rfl (.refl _)), ?_⟩
           refine any_end (by kernel_rfl) ?_
           refine hJ67 _ _ ⟨ro143, rc144, ro148, rc149, hA.keep _ ⟨rfl, rfl, rfl, rfl, rfl, rfl, rfl, rfl, rfl, rfl, rfl, rfl, rfl, rfl, rfl, rfl, rfl, rfl, rfl, rfl, rfl, rfl, rfl, rfl, rfl, rfl, rfl, rfl, trivial⟩, (St.pickRL hS ⟨⟨0, rfl⟩, ⟨⟨1, rfl⟩, ⟨⟨2, rfl⟩, ⟨⟨3, rfl⟩, ⟨⟨4, rfl⟩, ⟨⟨5, rfl⟩, ⟨⟨6, rfl⟩, ⟨⟨7, rfl⟩, ⟨⟨8, rfl⟩, ⟨⟨9, rfl⟩, ⟨⟨10, rfl⟩, ⟨⟨11, rfl⟩, trivial⟩⟩⟩⟩⟩⟩⟩⟩⟩⟩⟩⟩ [0, 1, 2] rfl (by decide)), ho150.nocap, ho150.caps, ho145.nocap, ho145.caps⟩
         · refine op_do hA 16 rfl rfl rfl rfl (d_load1 hS SmG_is1_22 rfl 0 rfl rfl) (hS.partD (.cons _ (.cons_cons _ (.cons_cons _ .slnil))) 0 rfl (.refl _)) ?_
           intro a hA
           refine any_one (by kernel_rfl) (op_do hA 2 rfl rfl rfl rfl (d_load1 hS SmG_is1_4 rfl 0 rfl rfl) (hS.partD (.cons _ (.cons_cons _ (.cons_cons _ .slnil))) 0 rfl (.refl _)) ?_)
           intro a hA
           refine any_tk (v := .bool false) hA 6 rfl rfl rfl rfl hP (hS.partD (.cons _ (.cons_cons _ (.cons_cons _ .slnil))) 0 rfl (.refl _)) (fun w1 hS => d_bin rfl rfl (fun w => ((bin_neqB Tryz.underlying4) w).trans (by rw [show (!((rb P.num) == rb u.num)) = false from (by rw [hb45, hsu]; rfl)]))) ?_
           intro a hA
           refine any_tk hA 7 rfl rfl rfl rfl hP (hS.partD (.cons _ (.cons_cons _ (.cons_cons _ .slnil))) 0 rfl (.refl _)) (fun w1 hS => d_move rfl) ?_
           intro a hA
           refine any_skip hA 8 rfl rfl rfl rfl (by kernel_rfl) (by kernel_rfl) (by kernel_rfl) (fun c a w h => hP c a _ _ w h) (hS.partD (.cons _ (.cons_cons _ (.cons_cons _ .slnil))) 0 rfl (.refl _)) ?_
           intro a hA
           refine any_skip hA 9 rfl rfl rfl rfl (by kernel_rfl) (by kernel_rfl) (by kernel_rfl) (fun c a w h => hP c a _ _ w h) (hS.partD (.cons _ (.cons_cons _ (.cons_cons _ .slnil))) 0 rfl (.refl _)) ?_
           intro a hA
           refine any_skip hA 10 rfl rfl rfl rfl (by kernel_rfl) (by kernel_rfl) (by kernel_rfl) (fun c a w h => hP c a _ _ w h) (hS.partD (.cons _ (.cons_cons _ (.cons_cons _ .slnil))) 0 rfl (.refl _)) ?_
           intro a hA
           refine any_skip hA 11 rfl rfl rfl rfl (by kernel_rfl) (by kernel_rfl) (by kernel_rfl) (fun c a w h => hP c a _ _ w h) (hS.partD (.cons _ (.cons_cons _ (.cons_cons _ .slnil))) 0 rfl (.refl _)) ?_
           intro a hA
           refine any_skip hA 12 rfl rfl rfl rfl (by kernel_rfl) (by kernel_rfl) (by kernel_rfl) (fun c a w h => hP c a _ _ w h) (hS.partD (.cons _ (.cons_cons _ (.cons_cons _ .slnil))) 0 rfl (.refl _)) ?_
           intro a hA
           refine any_tk (v := .bool ((rb (P * u).num))) hA 13 rfl rfl rfl rfl hP (hS.partD (.cons _ (.cons_cons _ (.cons_cons _ .slnil))) 0 rfl (.refl _)) (fun w1 hS => d_pick rfl rfl rfl (by rw [hsg9, hb45]; rfl)) ?_
           intro a hA
           refine any_one (by kernel_rfl) (op_call hA 20 rfl rfl rfl rfl (enters_func  rfl rfl (fun w => by kernel_rfl)) (rtimes_as hn9 _ _ (hS.rd 0 rfl) (hS.rd 9 rfl) (by omega) (by omega)) ?_)
           rintro _ w158 ⟨ro154, rc155, rfl, ho156, hb157⟩
           replace hS := hS.call hb157
           replace hS := hS.addR ho156.rd
           refine ⟨_, rfl, (hS.partD (.cons _ (.cons_cons _ (.cons_cons _ .slnil))) 1 rfl (.refl _)), ?_⟩
           intro a hA
           refine any_one (by kernel_rfl) (op_call hA 27 rfl rfl rfl rfl (enters_func  rfl rfl (fun w => by kernel_rfl)) (rtimes_as hd9 _ _ (hS.rd 2 rfl) (hS.rd 9 rfl) (by omega) (by omega)) ?_)
           rintro _ w163 ⟨ro159, rc160, rfl, ho161, hb162⟩
           replace hS := hS.call hb162
           replace hS := hS.addR ho161.rd
           refine ⟨_, rfl, (hS.partD (.cons _ (.cons_cons _ (.cons_cons _ .slnil))) 2 rfl (.refl _)), ?_⟩
           intro a hA
           refine any_tk (v := .agg #[.bool ((rb (P * u).num)), .slice ro154 ((words (P * u).num.natAbs).length) rc155, .slice ro159 ((words (P * u).den).length) rc160]) hA 28 rfl rfl rfl rfl hP (hS.partD (.cons _ (.cons_cons _ (.cons_cons _ .slnil))) 2 rfl (.refl _)) (fun w1 hS => d_build rfl (fun w => by kernel_rfl)) ?_
           intro a hA
           refine any_tk (v := .pointer (some ⟨g31, 0, none⟩)) hA 29 rfl rfl rfl rfl hP (hS.partD (.cons _ (.cons_cons _ (.cons_cons _ .slnil))) 2 rfl (.refl _)) (fun w1 hS => d_field SmG_fld_26_0 rfl rfl) ?_
           intro a hA
           refine any_one (by kernel_rfl) (op_store (us := [.bool ((rb (P * u).num)), .slice ro154 ((words (P * u).num.natAbs).length) rc155, .slice ro159 ((words (P * u).den).length) rc160, .bool false, .slice p27_3 0 p27_c3, .slice p27_4 1 p27_c4]) hA hS 30 rfl rfl rfl (sets_store rfl rfl rfl (by kernel_rfl) hS 0 rfl rfl rfl) 0 rfl rfl rfl rfl ?_)
           intro w164 hS
           refine ⟨(hS.partD (.cons _ (.cons_cons _ (.cons_cons _ .slnil))) 2 rfl (.refl _)), ?_⟩
           refine any_end (by kernel_rfl) ?_
           refine hJ67 _ _ ⟨ro154, rc155, ro159, rc160, hA.keep _ ⟨rfl, rfl, rfl, rfl, rfl, rfl, rfl, rfl, rfl, rfl, rfl, rfl, rfl, rfl, rfl, rfl, rfl, rfl, rfl, rfl, rfl, rfl, rfl, rfl, rfl, rfl, rfl, rfl, trivial⟩, (St.pickRL hS ⟨⟨0, rfl⟩, ⟨⟨1, rfl⟩, ⟨⟨2, rfl⟩, ⟨⟨3, rfl⟩, ⟨⟨4, rfl⟩, ⟨⟨5, rfl⟩, ⟨⟨6, rfl⟩, ⟨⟨7, rfl⟩, ⟨⟨8, rfl⟩, ⟨⟨9, rfl⟩, ⟨⟨10, rfl⟩, ⟨⟨11, rfl⟩, trivial⟩⟩⟩⟩⟩⟩⟩⟩⟩⟩⟩⟩ [0, 1, 2] rfl (by decide)), ho161.nocap, ho161.caps, ho156.nocap, ho156.caps⟩
     · refine seq_call hA rfl rfl rfl (enters_func  rfl rfl (fun w => by kernel_rfl)) (rrealQ_any (show Nm _ (Q6.rat u v) a1 ac1 a2 ac2 a3 ac3 a4 ac4 from ⟨⟨(hS.rd 9 rfl), ha.s1.nil, ha.s1.cap⟩, ⟨(hS.rd 8 rfl), ha.s2.nil, ha.s2.cap⟩, ⟨(hS.rd 7 rfl), ha.s3.nil, ha.s3.cap⟩, ⟨(hS.rd 6 rfl), ha.s4.nil, ha.s4.cap⟩⟩) (lenQ_rat hu hv) k2) ?_
       rintro _ w166 ⟨rfl, hb165⟩
       replace hS := hS.call hb165
       refine ⟨_, rfl, ?_⟩
       intro a hA
       refine seq_end ?_
       refine hK44 _ _ ?_
       refine wp_cond_true (hA.ev rfl) ?_
       have hJ186 : ∀ a w1, (∃ (J178 : Option Addr) (J179 : Nat) (J180 : Option Addr) (J181 : Nat), Sl a 87 [(0, .agg #[.bool (rb u.num), .slice a1 ((words u.num.natAbs).length) ac1, .slice a2 ((words u.den).length) ac2, .bool (rb v.num), .slice a3 ((words v.num.natAbs).length) ac3, .slice a4 ((words v.den).length) ac4]), (1, .int .i64 (((N : Nat) : Int))), (2, .pointer (some ⟨g2, 0, none⟩)), (4, .pointer (some ⟨g4, 0, none⟩)), (6, .int .i64 (((N : Nat) : Int))), (7, .pointer (some ⟨g31, 0, none⟩)), (8, .int .i64 (((i : Nat) : Int))), (9, .agg #[.bool (rb u.num), .slice a1 ((words u.num.natAbs).length) ac1, .slice a2 ((words u.den).length) ac2, .bool (rb v.num), .slice a3 ((words v.num.natAbs).length) ac3, .slice a4 ((words v.den).length) ac4]), (10, .bool true), (11, .bool false), (13, .int .i64 (((N : Nat) : Int))), (14, .bool false), (15, .bool false), (16, .int .i64 (((N : Nat) : Int))), (17, .bool false), (18, .bool false), (20, .int .i64 (((N : Nat) : Int))), (21, .bool false), (28, .bool false), (30, .int .i64 (((N : Nat) : Int))), (31, .int .i64 (((N : Nat) : Int))), (32, .bool false), (35, .agg #[.bool ((rb (1 : Rat).num)), .slice p27_1 ((words (1 : Rat).num.natAbs).length) p27_c1, .slice p27_2 ((words (1 : Rat).den).length) p27_c2, .bool false, .slice p27_3 0 p27_c3, .slice p27_4 1 p27_c4]), (36, .int .i64 (((i : Nat) : Int))), (37, .int .i64 (((N : Nat) : Int))), (38, .bool true), (41, .agg #[.bool (rb u.num), .slice a1 ((words u.num.natAbs).length) ac1, .slice a2 ((words u.den).length) ac2, .bool (rb v.num), .slice a3 ((words v.num.natAbs).length) ac3, .slice a4 ((words v.den).length) ac4]), (42, .bool true)] ∧ St w w1 [(g31, [.bool ((rb (P * u).num)), .slice J178 ((words (P * u).num.natAbs).length) J179, .slice J180 ((words (P * u).den).length) J181, .bool false, .slice p27_3 0 p27_c3, .slice p27_4 1 p27_c4]), (g4, [.bool false, .slice none 0 0, .slice none 0 0, .bool false, .slice none 0 0, .slice none 0 0]), (g2, [.bool (rb u.num), .slice a1 ((words u.num.natAbs).length) ac1, .slice a2 ((words u.den).length) ac2, .bool (rb v.num), .slice a3 ((words v.num.natAbs).length) ac3, .slice a4 ((words v.den).length) ac4])] [(J180, words (P * u).den), (J178, words (P * u).num.natAbs), (po1, words P.num.natAbs), (po2, words P.den), (p27_4, [1]), (p27_3, []), (p27_2, words (1 : Rat).den), (p27_1, words (1 : Rat).num.natAbs), (a4, words v.den), (a3, words v.num.natAbs), (a2, words u.den), (a1, words u.num.natAbs)] [] ∧ (J180 = none → J181 = 0) ∧ (words (P * u).den : List Nat).length ≤ J181 ∧ (J178 = none → J179 = 0) ∧ (words (P * u).num.natAbs : List Nat).length ≤ J179) → K43 a w1 := by
         clear hA hS
         rintro a w187 ⟨J178, J179, J180, J181, hA, hS, hn182, hc183, hn184, hc185⟩
         refine hK43 _ _ ?_
         refine wp_seq_k (fun K188 hK188 => ?_)
         refine wp_region_lit ?_
         refine seq_do hA rfl rfl rfl (d_loadS hS SmG_isS_26 rfl 0 rfl (cs := [.bool ((rb (P * u).num)), .slice J178 ((words (P * u).num.natAbs).length) J179, .slice J180 ((words (P * u).den).length) J181, .bool false, .slice p27_3 0 p27_c3, .slice p27_4 1 p27_c4]) rfl rfl) ?_
         intro a hA
         rcases Bool.eq_false_or_eq_true (decide (¬ (fitR (P * u) ∧ fitR 0))) with hb189 | hb189
         · have hb189' := of_decide_eq_true hb189
           refine seq_call hA rfl rfl rfl (enters_func  rfl rfl (fun w => by kernel_rfl)) (rlarge0_any (show Nm _ (Q6.real (P * u)) J178 J179 J180 J181 p27_3 p27_c3 p27_4 p27_c4 from ⟨⟨(hS.rd 1 rfl), hn184, hc185⟩, ⟨(hS.rd 0 rfl), hn182, hc183⟩, ⟨(hS.rd 5 rfl), hn28.s3.nil, hn28.s3.cap⟩, ⟨(hS.rd 4 rfl), hn28.s4.nil, hn28.s4.cap⟩⟩) LPu hb189) ?_
           rintro _ w191 ⟨rfl, hb190⟩
           replace hS := hS.call hb190
           refine ⟨_, rfl, ?_⟩
           intro a hA
           refine seq_end ?_
           refine hK188 _ _ ?_
           refine wp_cond_true (hA.ev rfl) ?_
           refine wp_seq_k (fun K192 hK192 => ?_)
           refine wp_region_lit ?_
           refine seq_do (v := .agg #[.bool false, .slice none 0 0, .slice none 0 0, .bool false, .slice none 0 0, .slice none 0 0]) hA rfl rfl rfl (d_build rfl (fun w => by kernel_rfl)) ?_
           intro a hA
           refine seq_store (us := [.bool false, .slice none 0 0, .slice none 0 0, .bool false, .slice none 0 0, .slice none 0 0]) hA hS rfl rfl (sets_store rfl rfl rfl (by kernel_rfl) hS 1 rfl rfl rfl) 1 rfl rfl rfl rfl ?_
           intro w193 hS
           refine seq_do hA rfl rfl rfl (d_assign rfl) ?_
           intro a hA
           refine seq_end ?_
           refine hK192 _ _ ?_
           refine wp_ret ?_
           refine hret _ _ ?_
           refine ends (v := .tuple #[.agg #[.bool false, .slice none 0 0, .slice none 0 0, .bool false, .slice none 0 0, .slice none 0 0], .int .i64 4]) hA rfl (.cons (res_cell hS SmG_isS_26 rfl 1 rfl (cs := [.bool false, .slice none 0 0, .slice none 0 0, .bool false, .slice none 0 0, .slice none 0 0]) rfl rfl) (.cons (res_tmp rfl) .nil)) rfl ?_
           rw [exptQ_pos hu hv h1 h2, if_neg (by rw [(pwB_stop (k := i + 1) (by omega) (by have h7 := of_decide_eq_true hb189; rw [hs9]; exact h7))]; decide)]
           exact ⟨none, 0, none, 0, none, 0, none, 0, rfl, ⟨(Sc.none _), (Sc.none _), (Sc.none _), (Sc.none _)⟩, hS.bel⟩
         · have hb189' := of_decide_eq_false hb189
           refine seq_call hA rfl rfl rfl (enters_func  rfl rfl (fun w => by kernel_rfl)) (rlarge0_any (show Nm _ (Q6.real (P * u)) J178 J179 J180 J181 p27_3 p27_c3 p27_4 p27_c4 from ⟨⟨(hS.rd 1 rfl), hn184, hc185⟩, ⟨(hS.rd 0 rfl), hn182, hc183⟩, ⟨(hS.rd 5 rfl), hn28.s3.nil, hn28.s3.cap⟩, ⟨(hS.rd 4 rfl), hn28.s4.nil, hn28.s4.cap⟩⟩) LPu hb189) ?_
           rintro _ w195 ⟨rfl, hb194⟩
           replace hS := hS.call hb194
           refine ⟨_, rfl, ?_⟩
           intro a hA
           refine seq_end ?_
           refine hK188 _ _ ?_
           refine wp_cond_false (hA.ev rfl) ?_
           refine wp_skip ?_
           refine hK42 _ _ ?_
           refine wp_region_lit ?_
           refine seq_do hA rfl rfl rfl (d_move rfl) ?_
           intro a hA
           refine seq_do (v := .int .i64 (((i + 1 : Nat) : Int))) hA rfl rfl rfl (d_bin rfl rfl (fun w => (bin_add (i64In (by omega) (by omega)) w).trans (by rw [show (((i : Nat) : Int) + 1 : Int) = ((i + 1 : Nat) : Int) from by omega]))) ?_
           intro a hA
           refine seq_do hA rfl rfl rfl (d_assign rfl) ?_
           intro a hA
           refine seq_end ?_
           refine hK37 _ _ _ (by omega) ⟨i + 1, (P * u), J178, J179, J180, J181, rfl, ⟨by omega, hs9, pwB_step hB9 (by rw [hs9]; exact (Decidable.not_not.1 (of_decide_eq_false hb189)).1) (by rw [hs9]; exact fit_zero), fit_lenR (Decidable.not_not.1 (of_decide_eq_false hb189)).1, hPu, (by rw [hPu]; exact pow_num_ne (by have h7 := of_decide_eq_true hsu; omega) _), ⟨hn184, hc185⟩, ⟨hn182, hc183⟩⟩, hA.keep _ ⟨rfl, rfl, rfl, rfl, rfl, rfl, rfl, rfl, rfl, rfl, rfl, rfl, rfl, rfl, rfl, rfl, rfl, rfl, rfl, rfl, rfl, rfl, rfl, trivial⟩, ((hS.pickR [(J178, words (P * u).num.natAbs), (J180, words (P * u).den), (p27_4, [1]), (p27_3, []), (p27_2, words (1 : Rat).den), (p27_1, words (1 : Rat).num.natAbs), (a4, words v.den), (a3, words v.num.natAbs), (a2, words u.den), (a1, words u.num.natAbs)] ⟨⟨1, rfl⟩, ⟨⟨0, rfl⟩, ⟨⟨4, rfl⟩, ⟨⟨5, rfl⟩, ⟨⟨6, rfl⟩, ⟨⟨7, rfl⟩, ⟨⟨8, rfl⟩, ⟨⟨9, rfl⟩, ⟨⟨10, rfl⟩, ⟨⟨11, rfl⟩, trivial⟩⟩⟩⟩⟩⟩⟩⟩⟩⟩).subL _ (.refl _))⟩
       refine wp_draw (S := fun w1 => St w w1 [(g4, [.bool false, .slice none 0 0, .slice none 0 0, .bool false, .slice none 0 0, .slice none 0 0]), (g2, [.bool (rb u.num), .slice a1 ((words u.num.natAbs).length) ac1, .slice a2 ((words u.den).length) ac2, .bool (rb v.num), .slice a3 ((words v.num.natAbs).length) ac3, .slice a4 ((words v.den).length) ac4])] [(po1, words P.num.natAbs), (po2, words P.den), (p27_4, [1]), (p27_3, []), (p27_2, words (1 : Rat).den), (p27_1, words (1 : Rat).num.natAbs), (a4, words v.den), (a3, words v.num.natAbs), (a2, words u.den), (a1, words u.num.natAbs)] []) (by kernel_rfl) ?_
       replace hS := hS.drew
       refine any_tk (v := .pointer (some ⟨g31, 0, none⟩)) hA 0 rfl rfl rfl rfl hP (hS.partD (.cons _ (.cons_cons _ (.cons_cons _ .slnil))) 0 rfl (.refl _)) (fun w1 hS => d_field SmG_fld_26_0 rfl rfl) ?_
       intro a hA
       refine any_tk (v := .pointer (some ⟨g31, 0, none⟩)) hA 1 rfl rfl rfl rfl hP (hS.partD (.cons _ (.cons_cons _ (.cons_cons _ .slnil))) 0 rfl (.refl _)) (fun w1 hS => d_field SmG_fld_24_0 rfl rfl) ?_
       intro a hA
       refine any_tk (v := .pointer (some ⟨g2, 0, none⟩)) hA 3 rfl rfl rfl rfl hP (hS.partD (.cons _ (.cons_cons _ (.cons_cons _ .slnil))) 0 rfl (.refl _)) (fun w1 hS => d_field SmG_fld_26_0 rfl rfl) ?_
       intro a hA
       refine any_tk (v := .pointer (some ⟨g2, 0, none⟩)) hA 4 rfl rfl rfl rfl hP (hS.partD (.cons _ (.cons_cons _ (.cons_cons _ .slnil))) 0 rfl (.refl _)) (fun w1 hS => d_field SmG_fld_24_0 rfl rfl) ?_
       intro a hA
       refine any_tk hA 5 rfl rfl rfl rfl hP (hS.partD (.cons _ (.cons_cons _ (.cons_cons _ .slnil))) 0 rfl (.refl _)) (fun w1 hS => d_load1 hS SmG_is1_4 rfl 1 rfl rfl) ?_
       intro a hA
       refine any_tk (v := .pointer (some ⟨g31, 0, none⟩)) hA 14 rfl rfl rfl rfl hP (hS.partD (.cons _ (.cons_cons _ (.cons_cons _ .slnil))) 0 rfl (.refl _)) (fun w1 hS => d_field SmG_fld_26_0 rfl rfl) ?_
       intro a hA
       refine any_tk (v := .pointer (some ⟨g31, 1, none⟩)) hA 15 rfl rfl rfl rfl hP (hS.partD (.cons _ (.cons_cons _ (.cons_cons _ .slnil))) 0 rfl (.refl _)) (fun w1 hS => d_field SmG_fld_24_1 rfl rfl) ?_
       intro a hA
       refine any_tk (v := .pointer (some ⟨g2, 0, none⟩)) hA 17 rfl rfl rfl rfl hP (hS.partD (.cons _ (.cons_cons _ (.cons_cons _ .slnil))) 0 rfl (.refl _)) (fun w1 hS => d_field SmG_fld_26_0 rfl rfl) ?_
       intro a hA
       refine any_tk (v := .pointer (some ⟨g2, 1, none⟩)) hA 18 rfl rfl rfl rfl hP (hS.partD (.cons _ (.cons_cons _ (.cons_cons _ .slnil))) 0 rfl (.refl _)) (fun w1 hS => d_field SmG_fld_24_1 rfl rfl) ?_
       intro a hA
       refine any_tk hA 19 rfl rfl rfl rfl hP (hS.partD (.cons _ (.cons_cons _ (.cons_cons _ .slnil))) 0 rfl (.refl _)) (fun w1 hS => d_load1 hS SmG_is1_22 rfl 1 rfl rfl) ?_
       intro a hA
       refine any_tk (v := .pointer (some ⟨g31, 0, none⟩)) hA 21 rfl rfl rfl rfl hP (hS.partD (.cons _ (.cons_cons _ (.cons_cons _ .slnil))) 0 rfl (.refl _)) (fun w1 hS => d_field SmG_fld_26_0 rfl rfl) ?_
       intro a hA
       refine any_tk (v := .pointer (some ⟨g31, 2, none⟩)) hA 22 rfl rfl rfl rfl hP (hS.partD (.cons _ (.cons_cons _ (.cons_cons _ .slnil))) 0 rfl (.refl _)) (fun w1 hS => d_field SmG_fld_24_2 rfl rfl) ?_
       intro a hA
       refine any_tk (v := .pointer (some ⟨g2, 0, none⟩)) hA 24 rfl rfl rfl rfl hP (hS.partD (.cons _ (.cons_cons _ (.cons_cons _ .slnil))) 0 rfl (.refl _)) (fun w1 hS => d_field SmG_fld_26_0 rfl rfl) ?_
       intro a hA
       refine any_tk (v := .pointer (some ⟨g2, 2, none⟩)) hA 25 rfl rfl rfl rfl hP (hS.partD (.cons _ (.cons_cons _ (.cons_cons _ .slnil))) 0 rfl (.refl _)) (fun w1 hS => d_field SmG_fld_24_2 rfl rfl) ?_
       intro a hA
       refine any_tk hA 26 rfl rfl rfl rfl hP (hS.partD (.cons _ (.cons_cons _ (.cons_cons _ .slnil))) 0 rfl (.refl _)) (fun w1 hS => d_load1 hS SmG_is1_22 rfl 1 rfl rfl) ?_
       intro a hA
       refine any_many (rs := [2, 16, 23]) (by kernel_rfl) (by simp) ⟨?_, ?_, ?_, trivial⟩
       · refine op_do hA 2 rfl rfl rfl rfl (d_load1 hS SmG_is1_4 rfl 0 rfl rfl) (hS.partD (.cons _ (.cons_cons _ (.cons_cons _ .slnil))) 0 rfl (.refl _)) ?_
         intro a hA
         refine any_tk (v := .bool true) hA 6 rfl rfl rfl rfl hP (hS.partD (.cons _ (.cons_cons _ (.cons_cons _ .slnil))) 0 rfl (.refl _)) (fun w1 hS => d_bin rfl rfl (fun w => ((bin_neqB Tryz.underlying4) w).trans (by rw [show (!((rb P.num) == rb u.num)) = true from (by rw [hb45, hsu]; rfl)]))) ?_
         intro a hA
         refine any_tk hA 7 rfl rfl rfl rfl hP (hS.partD (.cons _ (.cons_cons _ (.cons_cons _ .slnil))) 0 rfl (.refl _)) (fun w1 hS => d_move rfl) ?_
         intro a hA
         refine any_tk (v := .pointer (some ⟨g2, 0, none⟩)) hA 8 rfl rfl rfl rfl hP (hS.partD (.cons _ (.cons_cons _ (.cons_cons _ .slnil))) 0 rfl (.refl _)) (fun w1 hS => d_field SmG_fld_26_0 rfl rfl) ?_
         intro a hA
         refine any_tk (v := .pointer (some ⟨g2, 1, none⟩)) hA 9 rfl rfl rfl rfl hP (hS.partD (.cons _ (.cons_cons _ (.cons_cons _ .slnil))) 0 rfl (.refl _)) (fun w1 hS => d_field SmG_fld_24_1 rfl rfl) ?_
         intro a hA
         refine any_tk hA 10 rfl rfl rfl rfl hP (hS.partD (.cons _ (.cons_cons _ (.cons_cons _ .slnil))) 0 rfl (.refl _)) (fun w1 hS => d_load1 hS SmG_is1_22 rfl 1 rfl rfl) ?_
         intro a hA
         refine any_tk (v := .int .i64 ((((words u.num.natAbs).length : Nat) : Int))) hA 11 rfl rfl rfl rfl hP (hS.partD (.cons _ (.cons_cons _ (.cons_cons _ .slnil))) 0 rfl (.refl _)) (fun w1 hS => d_len Tryz.underlying22 rfl) ?_
         intro a hA
         refine any_tk (v := .bool true) hA 12 rfl rfl rfl rfl hP (hS.partD (.cons _ (.cons_cons _ (.cons_cons _ .slnil))) 0 rfl (.refl _)) (fun w1 hS => d_bin rfl rfl (fun w => (bin_gtr w).trans (by rw [show (decide (0 < (((words u.num.natAbs).length : Nat) : Int))) = true from (decide_eq_true (by omega))]))) ?_
         intro a hA
         refine any_tk (v := .bool ((rb (P * u).num))) hA 13 rfl rfl rfl rfl hP (hS.partD (.cons _ (.cons_cons _ (.cons_cons _ .slnil))) 0 rfl (.refl _)) (fun w1 hS => d_pick rfl rfl rfl (by rw [hsg9, hb45]; rfl)) ?_
         intro a hA
         refine any_many (rs := [16, 23]) (by kernel_rfl) (by simp) ⟨?_, ?_, trivial⟩
         · refine op_do hA 16 rfl rfl rfl rfl (d_load1 hS SmG_is1_22 rfl 0 rfl rfl) (hS.partD (.cons _ (.cons_cons _ (.cons_cons _ .slnil))) 0 rfl (.refl _)) ?_
           intro a hA
           refine any_many (rs := [20, 23]) (by kernel_rfl) (by simp) ⟨?_, ?_, trivial⟩
           · refine op_call hA 20 rfl rfl rfl rfl (enters_func  rfl rfl (fun w => by kernel_rfl)) (rtimes_as hn9 _ _ (hS.rd 0 rfl) (hS.rd 9 rfl) (by omega) (by omega)) ?_
             rintro _ w200 ⟨ro196, rc197, rfl, ho198, hb199⟩
             replace hS := hS.call hb199
             replace hS := hS.addR ho198.rd
             refine ⟨_, rfl, (hS.partD (.cons _ (.cons_cons _ (.cons_cons _ .slnil))) 1 rfl (.refl _)), ?_⟩
             intro a hA
             refine any_one (by kernel_rfl) (op_do hA 23 rfl rfl rfl rfl (d_load1 hS SmG_is1_22 rfl 0 rfl rfl) (hS.partD (.cons _ (.cons_cons _ (.cons_cons _ .slnil))) 1 rfl (.refl _)) ?_)
             intro a hA
             refine any_one (by kernel_rfl) (op_call hA 27 rfl rfl rfl rfl (enters_func  rfl rfl (fun w => by kernel_rfl)) (rtimes_as hd9 _ _ (hS.rd 2 rfl) (hS.rd 9 rfl) (by omega) (by omega)) ?_)
             rintro _ w205 ⟨ro201, rc202, rfl, ho203, hb204⟩
             replace hS := hS.call hb204
             replace hS := hS.addR ho203.rd
             refine ⟨_, rfl, (hS.partD (.cons _ (.cons_cons _ (.cons_cons _ .slnil))) 2 rfl (.refl _)), ?_⟩
             intro a hA
             refine any_tk (v := .agg #[.bool ((rb (P * u).num)), .slice ro196 ((words (P * u).num.natAbs).length) rc197, .slice ro201 ((words (P * u).den).length) rc202]) hA 28 rfl rfl rfl rfl hP (hS.partD (.cons _ (.cons_cons _ (.cons_cons _ .slnil))) 2 rfl (.refl _)) (fun w1 hS => d_build rfl (fun w => by kernel_rfl)) ?_
             intro a hA
             refine any_tk (v := .pointer (some ⟨g31, 0, none⟩)) hA 29 rfl rfl rfl rfl hP (hS.partD (.cons _ (.cons_cons _ (.cons_cons _ .slnil))) 2 rfl (.refl _)) (fun w1 hS => d_field SmG_fld_26_0 rfl rfl) ?_
             intro a hA
             refine any_one (by kernel_rfl) (op_store (us := [.bool ((rb (P * u).num)), .slice ro196 ((words (P * u).num.natAbs).length) rc197, .slice ro201 ((words (P * u).den).length) rc202, .bool false, .slice p27_3 0 p27_c3, .slice p27_4 1 p27_c4]) hA hS 30 rfl rfl rfl (sets_store rfl rfl rfl (by kernel_rfl) hS 0 rfl rfl rfl) 0 rfl rfl rfl rfl ?_)
             intro w206 hS
             refine ⟨(hS.partD (.cons _ (.cons_cons _ (.cons_cons _ .slnil))) 2 rfl (.refl _)), ?_⟩
             refine any_end (by kernel_rfl) ?_
             refine hJ186 _ _ ⟨ro196, rc197, ro201, rc202, hA.keep _ ⟨rfl, rfl, rfl, rfl, rfl, rfl, rfl, rfl, rfl, rfl, rfl, rfl, rfl, rfl, rfl, rfl, rfl, rfl, rfl, rfl, rfl, rfl, rfl, rfl, rfl, rfl, rfl, rfl, trivial⟩, (St.pickRL hS ⟨⟨0, rfl⟩, ⟨⟨1, rfl⟩, ⟨⟨2, rfl⟩, ⟨⟨3, rfl⟩, ⟨⟨4, rfl⟩, ⟨⟨5, rfl⟩, ⟨⟨6, rfl⟩, ⟨⟨7, rfl⟩, ⟨⟨8, rfl⟩, ⟨⟨9, rfl⟩, ⟨⟨10, rfl⟩, ⟨⟨11, rfl⟩, trivial⟩⟩⟩⟩⟩⟩⟩⟩⟩⟩⟩⟩ [0, 1, 2] rfl (by decide)), ho203.nocap, ho203.caps, ho198.nocap, ho198.caps⟩
           · refine op_do hA 23 rfl rfl rfl rfl (d_load1 hS SmG_is1_22 rfl 0 rfl rfl) (hS.partD (.cons _ (.cons_cons _ (.cons_cons _ .slnil))) 0 rfl (.refl _)) ?_
             intro a hA
             refine any_one (by kernel_rfl) (op_call hA 20 rfl rfl rfl rfl (enters_func  rfl rfl (fun w => by kernel_rfl)) (rtimes_as hn9 _ _ (hS.rd 0 rfl) (hS.rd 9 rfl) (by omega) (by omega)) ?_)
             rintro _ w211 ⟨ro207, rc208, rfl, ho209, hb210⟩
             replace hS := hS.call hb210
             replace hS := hS.addR ho209.rd
             refine ⟨_, rfl, (hS.partD (.cons _ (.cons_cons _ (.cons_cons _ .slnil))) 1 rfl (.refl _)), ?_⟩
             intro a hA
             refine any_one (by kernel_rfl) (op_call hA 27 rfl rfl rfl rfl (enters_func  rfl rfl (fun w => by kernel_rfl)) (rtimes_as hd9 _ _ (hS.rd 2 rfl) (hS.rd 9 rfl) (by omega) (by omega)) ?_)
             rintro _ w216 ⟨ro212, rc213, rfl, ho214, hb215⟩
             replace hS := hS.call hb215
             replace hS := hS.addR ho214.rd
             refine ⟨_, rfl, (hS.partD (.cons _ (.cons_cons _ (.cons_cons _ .slnil))) 2 rfl (.refl _)), ?_⟩
             intro a hA
             refine any_tk (v := .agg #[.bool ((rb (P * u).num)), .slice ro207 ((words (P * u).num.natAbs).length) rc208, .slice ro212 ((words (P * u).den).length) rc213]) hA 28 rfl rfl rfl rfl hP (hS.partD (.cons _ (.cons_cons _ (.cons_cons _ .slnil))) 2 rfl (.refl _)) (fun w1 hS => d_build rfl (fun w => by kernel_rfl)) ?_
             intro a hA
             refine any_tk (v := .pointer (some ⟨g31, 0, none⟩)) hA 29 rfl rfl rfl rfl hP (hS.partD (.cons _ (.cons_cons _ (.cons_cons _ .slnil))) 2 rfl (.refl _)) (fun w1 hS => d_field SmG_fld_26_0 rfl rfl) ?_
             intro a hA
             refine any_one (by kernel_rfl) (op_store (us := [.bool ((rb (P * u).num)), .slice ro207 ((words (P * u).num.natAbs).length) rc208, .slice ro212 ((words (P * u).den).length) rc213, .bool false, .slice p27_3 0 p27_c3, .slice p27_4 1 p27_c4]) hA hS 30 rfl rfl rfl (sets_store rfl rfl rfl (by kernel_rfl) hS 0 rfl rfl rfl) 0 rfl rfl rfl rfl ?_)
             intro w217 hS
             refine ⟨(hS.partD (.cons _ (.cons_cons _ (.cons_cons _ .slnil))) 2 rfl (.refl _)), ?_⟩
             refine any_end (by kernel_rfl) ?_
             refine hJ186 _ _ ⟨ro207, rc208, ro212, rc213, hA.keep _ ⟨rfl, rfl, rfl, rfl, rfl, rfl, rfl, rfl, rfl, rfl, rfl, rfl, rfl, rfl, rfl, rfl, rfl, rfl, rfl, rfl, rfl, rfl, rfl, rfl, rfl, rfl, rfl, rfl, trivial⟩, (St.pickRL hS ⟨⟨0, rfl⟩, ⟨⟨1, rfl⟩, ⟨⟨2, rfl⟩, ⟨⟨3, rfl⟩, ⟨⟨4, rfl⟩, ⟨⟨5, rfl⟩, ⟨⟨6, rfl⟩, ⟨⟨7, rfl⟩, ⟨⟨8, rfl⟩, ⟨⟨9, rfl⟩, ⟨⟨10, rfl⟩, ⟨⟨11, rfl⟩, trivial⟩⟩⟩⟩⟩⟩⟩⟩⟩⟩⟩⟩ [0, 1, 2] rfl (by decide)), ho214.nocap, ho214.caps, ho209.nocap, ho209.caps⟩
         · refine op_do hA 23 rfl rfl rfl rfl (d_load1 hS SmG_is1_22 rfl 0 rfl rfl) (hS.partD (.cons _ (.cons_cons _ (.cons_cons _ .slnil))) 0 rfl (.refl _)) ?_
           intro a hA
           refine any_one (by kernel_rfl) (op_do hA 16 rfl rfl rfl rfl (d_load1 hS SmG_is1_22 rfl 0 rfl rfl) (hS.partD (.cons _ (.cons_cons _ (.cons_cons _ .slnil))) 0 rfl (.refl _)) ?_)
           intro a hA
           refine any_one (by kernel_rfl) (op_call hA 20 rfl rfl rfl rfl (enters_func  rfl rfl (fun w => by kernel_rfl)) (rtimes_as hn9 _ _ (hS.rd 0 rfl) (hS.rd 9 rfl) (by omega) (by omega)) ?_)
           rintro _ w222 ⟨ro218, rc219, rfl, ho220, hb221⟩
           replace hS := hS.call hb221
           replace hS := hS.addR ho220.rd
           refine ⟨_, rfl, (hS.partD (.cons _ (.cons_cons _ (.cons_cons _ .slnil))) 1 rfl (.refl _)), ?_⟩
           intro a hA
           refine any_one (by kernel_rfl) (op_call hA 27 rfl rfl rfl rfl (enters_func  rfl rfl (fun w => by kernel_rfl)) (rtimes_as hd9 _ _ (hS.rd 2 rfl) (hS.rd 9 rfl) (by omega) (by omega)) ?_)
           rintro _ w227 ⟨ro223, rc224, rfl, ho225, hb226⟩
           replace hS := hS.call hb226
           replace hS := hS.addR ho225.rd
           refine ⟨_, rfl, (hS.partD (.cons _ (.cons_cons _ (.cons_cons _ .slnil))) 2 rfl (.refl _)), ?_⟩
           intro a hA
           refine any_tk (v := .agg #[.bool ((rb (P * u).num)), .slice ro218 ((words (P * u).num.natAbs).length) rc219, .slice ro223 ((words (P * u).den).length) rc224]) hA 28 rfl rfl rfl rfl hP (hS.partD (.cons _ (.cons_cons _ (.cons_cons _ .slnil))) 2 rfl (.refl _)) (fun w1 hS => d_build rfl (fun w => by kernel_rfl)) ?_
           intro a hA
           refine any_tk (v := .pointer (some ⟨g31, 0, none⟩)) hA 29 rfl rfl rfl rfl hP (hS.partD (.cons _ (.cons_cons _ (.cons_cons _ .slnil))) 2 rfl (.refl _)) (fun w1 hS => d_field SmG_fld_26_0 rfl rfl) ?_
           intro a hA
           refine any_one (by kernel_rfl) (op_store (us := [.bool ((rb (P * u).num)), .slice ro218 ((words (P * u).num.natAbs).length) rc219, .slice ro223 ((words (P * u).den).length) rc224, .bool false, .slice p27_3 0 p27_c3, .slice p27_4 1 p27_c4]) hA hS 30 rfl rfl rfl (sets_store rfl rfl rfl (by kernel_rfl) hS 0 rfl rfl rfl) 0 rfl rfl rfl rfl ?_)
           intro w228 hS
           refine ⟨(hS.partD (.cons _ (.cons_cons _ (.cons_cons _ .slnil))) 2 rfl (.refl _)), ?_⟩
           refine any_end (by kernel_rfl) ?_
           refine hJ186 _ _ ⟨ro218, rc219, ro223, rc224, hA.keep _ ⟨rfl, rfl, rfl, rfl, rfl, rfl, rfl, rfl, rfl, rfl, rfl, rfl, rfl, rfl, rfl, rfl, rfl, rfl, rfl, rfl, rfl, rfl, rfl, rfl, rfl, rfl, rfl, rfl, trivial⟩, (St.pickRL hS ⟨⟨0, rfl⟩, ⟨⟨1, rfl⟩, ⟨⟨2, rfl⟩, ⟨⟨3, rfl⟩, ⟨⟨4, rfl⟩, ⟨⟨5, rfl⟩, ⟨⟨6, rfl⟩, ⟨⟨7, rfl⟩, ⟨⟨8, rfl⟩, ⟨⟨9, rfl⟩, ⟨⟨10, rfl⟩, ⟨⟨11, rfl⟩, trivial⟩⟩⟩⟩⟩⟩⟩⟩⟩⟩⟩⟩ [0, 1, 2] rfl (by decide)), ho225.nocap, ho225.caps, ho220.nocap, ho220.caps⟩
       · refine op_do hA 16 rfl rfl rfl rfl (d_load1 hS SmG_is1_22 rfl 0 rfl rfl) (hS.partD (.cons _ (.cons_cons _ (.cons_cons _ .slnil))) 0 rfl (.refl _)) ?_
         intro a hA
         refine any_many (rs := [2, 23]) (by kernel_rfl) (by simp) ⟨?_, ?_, trivial⟩
         · refine op_do hA 2 rfl rfl rfl rfl (d_load1 hS SmG_is1_4 rfl 0 rfl rfl) (hS.partD (.cons _ (.cons_cons _ (.cons_cons _ .slnil))) 0 rfl (.refl _)) ?_
           intro a hA
           refine any_tk (v := .bool true) hA 6 rfl rfl rfl rfl hP (hS.partD (.cons _ (.cons_cons _ (.cons_cons _ .slnil))) 0 rfl (.refl _)) (fun w1 hS => d_bin rfl rfl (fun w => ((bin_neqB Tryz.underlying4) w).trans (by rw [show (!((rb P.num) == rb u.num)) = true from (by rw [hb45, hsu]; rfl)]))) ?_
           intro a hA
           refine any_tk hA 7 rfl rfl rfl rfl hP (hS.partD (.cons _ (.cons_cons _ (.cons_cons _ .slnil))) 0 rfl (.refl _)) (fun w1 hS => d_move rfl) ?_
           intro a hA
           refine any_tk (v := .pointer (some ⟨g2, 0, none⟩)) hA 8 rfl rfl rfl rfl hP (hS.partD (.cons _ (.cons_cons _ (.cons_cons _ .slnil))) 0 rfl (.refl _)) (fun w1 hS => d_field SmG_fld_26_0 rfl rfl) ?_
           intro a hA
           refine any_tk (v := .pointer (some ⟨g2, 1, none⟩)) hA 9 rfl rfl rfl rfl hP (hS.partD (.cons _ (.cons_cons _ (.cons_cons _ .slnil))) 0 rfl (.refl _)) (fun w1 hS => d_field SmG_fld_24_1 rfl rfl) ?_
           intro a hA
           refine any_tk hA 10 rfl rfl rfl rfl hP (hS.partD (.cons _ (.cons_cons _ (.cons_cons _ .slnil))) 0 rfl (.refl _)) (fun w1 hS => d_load1 hS SmG_is1_22 rfl 1 rfl rfl) ?_
           intro a hA
           refine any_tk (v := .int .i64 ((((words u.num.natAbs).length : Nat) : Int))) hA 11 rfl rfl rfl rfl hP (hS.partD (.cons _ (.cons_cons _ (.cons_cons _ .slnil))) 0 rfl (.refl _)) (fun w1 hS => d_len Tryz.underlying22 rfl) ?_
           intro a hA
           refine any_tk (v := .bool true) hA 12 rfl rfl rfl rfl hP (hS.partD (.cons _ (.cons_cons _ (.cons_cons _ .slnil))) 0 rfl (.refl _)) (fun w1 hS => d_bin rfl rfl (fun w => (bin_gtr w).trans (by rw [show (decide (0 < (((words u.num.natAbs).length : Nat) : Int))) = true from (decide_eq_true (by omega))]))) ?_
           intro a hA
           refine any_tk (v := .bool ((rb (P * u).num))) hA 13 rfl rfl rfl rfl hP (hS.partD (.cons _ (.cons_cons _ (.cons_cons _ .slnil))) 0 rfl (.refl _)) (fun w1 hS => d_pick rfl rfl rfl (by rw [hsg9, hb45]; rfl)) ?_
           intro a hA
           refine any_many (rs := [20, 23]) (by kernel_rfl) (by simp) ⟨?_, ?_, trivial⟩
           · refine op_call hA 20 rfl rfl rfl rfl (enters_func  rfl rfl (fun w => by kernel_rfl)) (rtimes_as hn9 _ _ (hS.rd 0 rfl) (hS.rd 9 rfl) (by omega) (by omega)) ?_
             rintro _ w233 ⟨ro229, rc230, rfl, ho231, hb232⟩
             replace hS := hS.call hb232
             replace hS := hS.addR ho231.rd
             refine ⟨_, rfl, (hS.partD (.cons _ (.cons_cons _ (.cons_cons _ .slnil))) 1 rfl (.refl _)), ?_⟩
             intro a hA
             refine any_one (by kernel_rfl) (op_do hA 23 rfl rfl rfl rfl (d_load1 hS SmG_is1_22 rfl 0 rfl rfl) (hS.partD (.cons _ (.cons_cons _ (.cons_cons _ .slnil))) 1 rfl (.refl _)) ?_)
             intro a hA
             refine any_one (by kernel_rfl) (op_call hA 27 rfl rfl rfl rfl (enters_func  rfl rfl (fun w => by kernel_rfl)) (rtimes_as hd9 _ _ (hS.rd 2 rfl) (hS.rd 9 rfl) (by omega) (by omega)) ?_)
             rintro _ w238 ⟨ro234, rc235, rfl, ho236, hb237⟩
             replace hS := hS.call hb237
             replace hS := hS.addR ho236.rd
             refine ⟨_, rfl, (hS.partD (.cons _ (.cons_cons _ (.cons_cons _ .slnil))) 2 rfl (.refl _)), ?_⟩
             intro a hA
             refine any_tk (v := .agg #[.bool ((rb (P * u).num)), .slice ro229 ((words (P * u).num.natAbs).length) rc230, .slice ro234 ((words (P * u).den).length) rc235]) hA 28 rfl rfl rfl rfl hP (hS.partD (.cons _ (.cons_cons _ (.cons_cons _ .slnil))) 2 rfl (.refl _)) (fun w1 hS => d_build rfl (fun w => by kernel_rfl)) ?_
             intro a hA
             refine any_tk (v := .pointer (some ⟨g31, 0, none⟩)) hA 29 rfl rfl rfl rfl hP (hS.partD (.cons _ (.cons_cons _ (.cons_cons _ .slnil))) 2 rfl (.refl _)) (fun w1 hS => d_field SmG_fld_26_0 rfl rfl) ?_
             intro a hA
             refine any_one (by kernel_rfl) (op_store (us := [.bool ((rb (P * u).num)), .slice ro229 ((words (P * u).num.natAbs).length) rc230, .slice ro234 ((words (P * u).den).length) rc235, .bool false, .slice p27_3 0 p27_c3, .slice p27_4 1 p27_c4]) hA hS 30 rfl rfl rfl (sets_store rfl rfl rfl (by kernel_rfl) hS 0 rfl rfl rfl) 0 rfl rfl rfl rfl ?_)
             intro w239 hS
             refine ⟨(hS.partD (.cons _ (.cons_cons _ (.cons_cons _ .slnil))) 2 rfl (.refl _)), ?_⟩
             refine any_end (by kernel_rfl) ?_
             refine hJ186 _ _ ⟨ro229, rc230, ro234, rc235, hA.keep _ ⟨rfl, rfl, rfl, rfl, rfl, rfl, rfl, rfl, rfl, rfl, rfl, rfl, rfl, rfl, rfl, rfl, rfl, rfl, rfl, rfl, rfl, rfl, rfl, rfl, rfl, rfl, rfl, rfl, trivial⟩, (St.pickRL hS ⟨⟨0, rfl⟩, ⟨⟨1, rfl⟩, ⟨⟨2, rfl⟩, ⟨⟨3, rfl⟩, ⟨⟨4, rfl⟩, ⟨⟨5, rfl⟩, ⟨⟨6, rfl⟩, ⟨⟨7, rfl⟩, ⟨⟨8, rfl⟩, ⟨⟨9, rfl⟩, ⟨⟨10, rfl⟩, ⟨⟨11, rfl⟩, trivial⟩⟩⟩⟩⟩⟩⟩⟩⟩⟩⟩⟩ [0, 1, 2] rfl (by decide)), ho236.nocap, ho236.caps, ho231.nocap, ho231.caps⟩
           · refine op_do hA 23 rfl rfl rfl rfl (d_load1 hS SmG_is1_22 rfl 0 rfl rfl) (hS.partD (.cons _ (.cons_cons _ (.cons_cons _ .slnil))) 0 rfl (.refl _)) ?_
             intro a hA
             refine any_one (by kernel_rfl) (op_call hA 20 rfl rfl rfl rfl (enters_func  rfl rfl (fun w => by kernel_rfl)) (rtimes_as hn9 _ _ (hS.rd 0 rfl) (hS.rd 9 rfl) (by omega) (by omega)) ?_)
             rintro _ w244 ⟨ro240, rc241, rfl, ho242, hb243⟩
             replace hS := hS.call hb243
             replace hS := hS.addR ho242.rd
             refine ⟨_, rfl, (hS.partD (.cons _ (.cons_cons _ (.cons_cons _ .slnil))) 1 rfl (.refl _)), ?_⟩
             intro a hA
             refine any_one (by kernel_rfl) (op_call hA 27 rfl rfl rfl rfl (enters_func  rfl rfl (fun w => by kernel_rfl)) (rtimes_as hd9 _ _ (hS.rd 2 rfl) (hS.rd 9 rfl) (by omega) (by omega)) ?_)
             rintro _ w249 ⟨ro245, rc246, rfl, ho247, hb248⟩
             replace hS := hS.call hb248
             replace hS := hS.addR ho247.rd
             refine ⟨_, rfl, (hS.partD (.cons _ (.cons_cons _ (.cons_cons _ .slnil))) 2 rfl (.refl _)), ?_⟩
             intro a hA
             refine any_tk (v := .agg #[.bool ((rb (P * u).num)), .slice ro240 ((words (P * u).num.natAbs).length) rc241, .slice ro245 ((words (P * u).den).length) rc246]) hA 28 rfl rfl rfl rfl hP (hS.partD (.cons _ (.cons_cons _ (.cons_cons _ .slnil))) 2 rfl (.refl _)) (fun w1 hS => d_build rfl (fun w => by kernel_rfl)) ?_
             intro a hA
             refine any_tk (v := .pointer (some ⟨g31, 0, none⟩)) hA 29 rfl rfl rfl rfl hP (hS.partD (.cons _ (.cons_cons _ (.cons_cons _ .slnil))) 2 rfl (.refl _)) (fun w1 hS => d_field SmG_fld_26_0 rfl rfl) ?_
             intro a hA
             refine any_one (by kernel_rfl) (op_store (us := [.bool ((rb (P * u).num)), .slice ro240 ((words (P * u).num.natAbs).length) rc241, .slice ro245 ((words (P * u).den).length) rc246, .bool false, .slice p27_3 0 p27_c3, .slice p27_4 1 p27_c4]) hA hS 30 rfl rfl rfl (sets_store rfl rfl rfl (by kernel_rfl) hS 0 rfl rfl rfl) 0 rfl rfl rfl rfl ?_)
             intro w250 hS
             refine ⟨(hS.partD (.cons _ (.cons_cons _ (.cons_cons _ .slnil))) 2 rfl (.refl _)), ?_⟩
             refine any_end (by kernel_rfl) ?_
             refine hJ186 _ _ ⟨ro240, rc241, ro245, rc246, hA.keep _ ⟨rfl, rfl, rfl, rfl, rfl, rfl, rfl, rfl, rfl, rfl, rfl, rfl, rfl, rfl, rfl, rfl, rfl, rfl, rfl, rfl, rfl, rfl, rfl, rfl, rfl, rfl, rfl, rfl, trivial⟩, (St.pickRL hS ⟨⟨0, rfl⟩, ⟨⟨1, rfl⟩, ⟨⟨2, rfl⟩, ⟨⟨3, rfl⟩, ⟨⟨4, rfl⟩, ⟨⟨5, rfl⟩, ⟨⟨6, rfl⟩, ⟨⟨7, rfl⟩, ⟨⟨8, rfl⟩, ⟨⟨9, rfl⟩, ⟨⟨10, rfl⟩, ⟨⟨11, rfl⟩, trivial⟩⟩⟩⟩⟩⟩⟩⟩⟩⟩⟩⟩ [0, 1, 2] rfl (by decide)), ho247.nocap, ho247.caps, ho242.nocap, ho242.caps⟩
         · refine op_do hA 23 rfl rfl rfl rfl (d_load1 hS SmG_is1_22 rfl 0 rfl rfl) (hS.partD (.cons _ (.cons_cons _ (.cons_cons _ .slnil))) 0 rfl (.refl _)) ?_
           intro a hA
           refine any_one (by kernel_rfl) (op_do hA 2 rfl rfl rfl rfl (d_load1 hS SmG_is1_4 rfl 0 rfl rfl) (hS.partD (.cons _ (.cons_cons _ (.cons_cons _ .slnil))) 0 rfl (.refl _)) ?_)
           intro a hA
           refine any_tk (v := .bool true) hA 6 rfl rfl rfl rfl hP (hS.partD (.cons _ (.cons_cons _ (.cons_cons _ .slnil))) 0 rfl (.refl _)) (fun w1 hS => d_bin rfl rfl (fun w => ((bin_neqB Tryz.underlying4) w).trans (by rw [show (!((rb P.num) == rb u.num)) = true from (by rw [hb45, hsu]; rfl)]))) ?_
           intro a hA
           refine any_tk hA 7 rfl rfl rfl rfl hP (hS.partD (.cons _ (.cons_cons _ (.cons_cons _ .slnil))) 0 rfl (.refl _)) (fun w1 hS => d_move rfl) ?_
           intro a hA
           refine any_tk (v := .pointer (some ⟨g2, 0, none⟩)) hA 8 rfl rfl rfl rfl hP (hS.partD (.cons _ (.cons_cons _ (.cons_cons _ .slnil))) 0 rfl (.refl _)) (fun w1 hS => d_field SmG_fld_26_0 rfl rfl) ?_
           intro a hA
           refine any_tk (v := .pointer (some ⟨g2, 1, none⟩)) hA 9 rfl rfl rfl rfl hP (hS.partD (.cons _ (.cons_cons _ (.cons_cons _ .slnil))) 0 rfl (.refl _)) (fun w1 hS => d_field SmG_fld_24_1 rfl rfl) ?_
           intro a hA
           refine any_tk hA 10 rfl rfl rfl rfl hP (hS.partD (.cons _ (.cons_cons _ (.cons_cons _ .slnil))) 0 rfl (.refl _)) (fun w1 hS => d_load1 hS SmG_is1_22 rfl 1 rfl rfl) ?_
           intro a hA
           refine any_tk (v := .int .i64 ((((words u.num.natAbs).length : Nat) : Int))) hA 11 rfl rfl rfl rfl hP (hS.partD (.cons _ (.cons_cons _ (.cons_cons _ .slnil))) 0 rfl (.refl _)) (fun w1 hS => d_len Tryz.underlying22 rfl) ?_
           intro a hA
           refine any_tk (v := .bool true) hA 12 rfl rfl rfl rfl hP (hS.partD (.cons _ (.cons_cons _ (.cons_cons _ .slnil))) 0 rfl (.refl _)) (fun w1 hS => d_bin rfl rfl (fun w => (bin_gtr w).trans (by rw [show (decide (0 < (((words u.num.natAbs).length : Nat) : Int))) = true from (decide_eq_true (by omega))]))) ?_
           intro a hA
           refine any_tk (v := .bool ((rb (P * u).num))) hA 13 rfl rfl rfl rfl hP (hS.partD (.cons _ (.cons_cons _ (.cons_cons _ .slnil))) 0 rfl (.refl _)) (fun w1 hS => d_pick rfl rfl rfl (by rw [hsg9, hb45]; rfl)) ?_
           intro a hA
           refine any_one (by kernel_rfl) (op_call hA 20 rfl rfl rfl rfl (enters_func  rfl rfl (fun w => by kernel_rfl)) (rtimes_as hn9 _ _ (hS.rd 0 rfl) (hS.rd 9 rfl) (by omega) (by omega)) ?_)
           rintro _ w255 ⟨ro251, rc252, rfl, ho253, hb254⟩
           replace hS := hS.call hb254
           replace hS := hS.addR ho253.rd
           refine ⟨_, rfl, (hS.partD (.cons _ (.cons_cons _ (.cons_cons _ .slnil))) 1 rfl (.refl _)), ?_⟩
           intro a hA
           refine any_one (by kernel_rfl) (op_call hA 27 rfl rfl rfl rfl (enters_func  rfl rfl (fun w => by kernel_rfl)) (rtimes_as hd9 _ _ (hS.rd 2 rfl) (hS.rd 9 rfl) (by omega) (by omega)) ?_)
           rintro _ w260 ⟨ro256, rc257, rfl, ho258, hb259⟩
           replace hS := hS.call hb259
           replace hS := hS.addR ho258.rd
           refine ⟨_, rfl, (hS.partD (.cons _ (.cons_cons _ (.cons_cons _ .slnil))) 2 rfl (.refl _)), ?_⟩
           intro a hA
           refine any_tk (v := .agg #[.bool ((rb (P * u).num)), .slice ro251 ((words (P * u).num.natAbs).length) rc252, .slice ro256 ((words (P * u).den).length) rc257]) hA 28 rfl rfl rfl rfl hP (hS.partD (.cons _ (.cons_cons _ (.cons_cons _ .slnil))) 2 rfl (.refl _)) (fun w1 hS => d_build rfl (fun w => by kernel_rfl)) ?_
           intro a hA
           refine any_tk (v := .pointer (some ⟨g31, 0, none⟩)) hA 29 rfl rfl rfl rfl hP (hS.partD (.cons _ (.cons_cons _ (.cons_cons _ .slnil))) 2 rfl (.refl _)) (fun w1 hS => d_field SmG_fld_26_0 rfl rfl) ?_
           intro a hA
           refine any_one (by kernel_rfl) (op_store (us := [.bool ((rb (P * u).num)), .slice ro251 ((words (P * u).num.natAbs).length) rc252, .slice ro256 ((words (P * u).den).length) rc257, .bool false, .slice p27_3 0 p27_c3, .slice p27_4 1 p27_c4]) hA hS 30 rfl rfl rfl (sets_store rfl rfl rfl (by kernel_rfl) hS 0 rfl rfl rfl) 0 rfl rfl rfl rfl ?_)
           intro w261 hS
           refine ⟨(hS.partD (.cons _ (.cons_cons _ (.cons_cons _ .slnil))) 2 rfl (.refl _)), ?_⟩
           refine any_end (by kernel_rfl) ?_
           refine hJ186 _ _ ⟨ro251, rc252, ro256, rc257, hA.keep _ ⟨rfl, rfl, rfl, rfl, rfl, rfl, rfl, rfl, rfl, rfl, rfl, rfl, rfl, rfl, rfl, rfl, rfl, rfl, rfl, rfl, rfl, rfl, rfl, rfl, rfl, rfl, rfl, rfl, trivial⟩, (St.pickRL hS ⟨⟨0, rfl⟩, ⟨⟨1, rfl⟩, ⟨⟨2, rfl⟩, ⟨⟨3, rfl⟩, ⟨⟨4, rfl⟩, ⟨⟨5, rfl⟩, ⟨⟨6, rfl⟩, ⟨⟨7, rfl⟩, ⟨⟨8, rfl⟩, ⟨⟨9, rfl⟩, ⟨⟨10, rfl⟩, ⟨⟨11, rfl⟩, trivial⟩⟩⟩⟩⟩⟩⟩⟩⟩⟩⟩⟩ [0, 1, 2] rfl (by decide)), ho258.nocap, ho258.caps, ho253.nocap, ho253.caps⟩
       · refine op_do hA 23 rfl rfl rfl rfl (d_load1 hS SmG_is1_22 rfl 0 rfl rfl) (hS.partD (.cons _ (.cons_cons _ (.cons_cons _ .slnil))) 0 rfl (.refl _)) ?_
         intro a hA
         refine any_many (rs := [2, 16]) (by kernel_rfl) (by simp) ⟨?_, ?_, trivial⟩
         · refine op_do hA 2 rfl rfl rfl rfl (d_load1 hS SmG_is1_4 rfl 0 rfl rfl) (hS.partD (.cons _ (.cons_cons _ (.cons_cons _ .slnil))) 0 rfl (.refl _)) ?_
           intro a hA
           refine any_tk (v := .bool true) hA 6 rfl rfl rfl rfl hP (hS.partD (.cons _ (.cons_cons _ (.cons_cons _ .slnil))) 0 rfl (.refl _)) (fun w1 hS => d_bin rfl rfl (fun w => ((bin_neqB Tryz.underlying4) w).trans (by rw [show (!((rb P.num) == rb u.num)) = true from (by rw [hb45, hsu]; rfl)]))) ?_
           intro a hA
           refine any_tk hA 7 rfl rfl rfl rfl hP (hS.partD (.cons _ (.cons_cons _ (.cons_cons _ .slnil))) 0 rfl (.refl _)) (fun w1 hS => d_move rfl) ?_
           intro a hA
           refine any_tk (v := .pointer (some ⟨g2, 0, none⟩)) hA 8 rfl rfl rfl rfl hP (hS.partD (.cons _ (.cons_cons _ (.cons_cons _ .slnil))) 0 rfl (.refl _)) (fun w1 hS => d_field SmG_fld_26_0 rfl rfl) ?_
           intro a hA
           refine any_tk (v := .pointer (some ⟨g2, 1, none⟩)) hA 9 rfl rfl rfl rfl hP (hS.partD (.cons _ (.cons_cons _ (.cons_cons _ .slnil))) 0 rfl (.refl _)) (fun w1 hS => d_field SmG_fld_24_1 rfl rfl) ?_
           intro a hA
           refine any_tk hA 10 rfl rfl rfl rfl hP (hS.partD (.cons _ (.cons_cons _ (.cons_cons _ .slnil))) 0 rfl (.refl _)) (fun w1 hS => d_load1 hS SmG_is1_22 rfl 1 rfl rfl) ?_
           intro a hA
           refine any_tk (v := .int .i64 ((((words u.num.natAbs).length : Nat) : Int))) hA 11 rfl rfl rfl rfl hP (hS.partD (.cons _ (.cons_cons _ (.cons_cons _ .slnil))) 0 rfl (.refl _)) (fun w1 hS => d_len Tryz.underlying22 rfl) ?_
           intro a hA
           refine any_tk (v := .bool true) hA 12 rfl rfl rfl rfl hP (hS.partD (.cons _ (.cons_cons _ (.cons_cons _ .slnil))) 0 rfl (.refl _)) (fun w1 hS => d_bin rfl rfl (fun w => (bin_gtr w).trans (by rw [show (decide (0 < (((words u.num.natAbs).length : Nat) : Int))) = true from (decide_eq_true (by omega))]))) ?_
           intro a hA
           refine any_tk (v := .bool ((rb (P * u).num))) hA 13 rfl rfl rfl rfl hP (hS.partD (.cons _ (.cons_cons _ (.cons_cons _ .slnil))) 0 rfl (.refl _)) (fun w1 hS => d_pick rfl rfl rfl (by rw [hsg9, hb45]; rfl)) ?_
           intro a hA
           refine any_one (by kernel_rfl) (op_do hA 16 rfl rfl rfl rfl (d_load1 hS SmG_is1_22 rfl 0 rfl rfl) (hS.partD (.cons _ (.cons_cons _ (.cons_cons _ .slnil))) 0 rfl (.refl _)) ?_)
           intro a hA
           refine any_one (by kernel_rfl) (op_call hA 20 rfl rfl rfl rfl (enters_func  rfl rfl (fun w => by kernel_rfl)) (rtimes_as hn9 _ _ (hS.rd 0 rfl) (hS.rd 9 rfl) (by omega) (by omega)) ?_)
           rintro _ w266 ⟨ro262, rc263, rfl, ho264, hb265⟩
           replace hS := hS.call hb265
           replace hS := hS.addR ho264.rd
           refine ⟨_, rfl, (hS.partD (.cons _ (.cons_cons _ (.cons_cons _ .slnil))) 1 rfl (.refl _)), ?_⟩
           intro a hA
           refine any_one (by kernel_rfl) (op_call hA 27 rfl rfl rfl rfl (enters_func  rfl rfl (fun w => by kernel_rfl)) (rtimes_as hd9 _ _ (hS.rd 2 rfl) (hS.rd 9 rfl) (by omega) (by omega)) ?_)
           rintro _ w271 ⟨ro267, rc268, rfl, ho269, hb270⟩
           replace hS := hS.call hb270
           replace hS := hS.addR ho269.rd
           refine ⟨_, rfl, (hS.partD (.cons _ (.cons_cons _ (.cons_cons _ .slnil))) 2 rfl (.refl _)), ?_⟩
           intro a hA
           refine any_tk (v := .agg #[.bool ((rb (P * u).num)), .slice ro262 ((words (P * u).num.natAbs).length) rc263, .slice ro267 ((words (P * u).den).length) rc268]) hA 28 rfl rfl rfl rfl hP (hS.partD (.cons _ (.cons_cons _ (.cons_cons _ .slnil))) 2 rfl (.refl _)) (fun w1 hS => d_build rfl (fun w => by kernel_rfl)) ?_
           intro a hA
           refine any_tk (v := .pointer (some ⟨g31, 0, none⟩)) hA 29 rfl rfl rfl rfl hP (hS.partD (.cons _ (.cons_cons _ (.cons_cons _ .slnil))) 2 rfl (.refl _)) (fun w1 hS => d_field SmG_fld_26_0 rfl rfl) ?_
           intro a hA
           refine any_one (by kernel_rfl) (op_store (us := [.bool ((rb (P * u).num)), .slice ro262 ((words (P * u).num.natAbs).length) rc263, .slice ro267 ((words (P * u).den).length) rc268, .bool false, .slice p27_3 0 p27_c3, .slice p27_4 1 p27_c4]) hA hS 30 rfl rfl rfl (sets_store rfl rfl rfl (by kernel_rfl) hS 0 rfl rfl rfl) 0 rfl rfl rfl rfl ?_)
           intro w272 hS
           refine ⟨(hS.partD (.cons _ (.cons_cons _ (.cons_cons _ .slnil))) 2 rfl (.refl _)), ?_⟩
           refine any_end (by kernel_rfl) ?_
           refine hJ186 _ _ ⟨ro262, rc263, ro267, rc268, hA.keep _ ⟨rfl, rfl, rfl, rfl, rfl, rfl, rfl, rfl, rfl, rfl, rfl, rfl, rfl, rfl, rfl, rfl, rfl, rfl, rfl, rfl, rfl, rfl, rfl, rfl, rfl, rfl, rfl, rfl, trivial⟩, (St.pickRL hS ⟨⟨0, rfl⟩, ⟨⟨1, rfl⟩, ⟨⟨2, rfl⟩, ⟨⟨3, rfl⟩, ⟨⟨4, rfl⟩, ⟨⟨5, rfl⟩, ⟨⟨6, rfl⟩, ⟨⟨7, rfl⟩, ⟨⟨8, rfl⟩, ⟨⟨9, rfl⟩, ⟨⟨10, rfl⟩, ⟨⟨11, rfl⟩, trivial⟩⟩⟩⟩⟩⟩⟩⟩⟩⟩⟩⟩ [0, 1, 2] rfl (by decide)), ho269.nocap, ho269.caps, ho264.nocap, ho264.caps⟩
         · refine op_do hA 16 rfl rfl rfl rfl (d_load1 hS SmG_is1_22 rfl 0 rfl rfl) (hS.partD (.cons _ (.cons_cons _ (.cons_cons _ .slnil))) 0 rfl (.refl _)) ?_
           intro a hA
           refine any_one (by kernel_rfl) (op_do hA 2 rfl rfl rfl rfl (d_load1 hS SmG_is1_4 rfl 0 rfl rfl) (hS.partD (.cons _ (.cons_cons _ (.cons_cons _ .slnil))) 0 rfl (.refl _)) ?_)
           intro a hA
           refine any_tk (v := .bool true) hA 6 rfl rfl rfl rfl hP (hS.partD (.cons _ (.cons_cons _ (.cons_cons _ .slnil))) 0 rfl (.refl _)) (fun w1 hS => d_bin rfl rfl (fun w => ((bin_neqB Tryz.underlying4) w).trans (by rw [show (!((rb P.num) == rb u.num)) = true from (by rw [hb45, hsu]; rfl)]))) ?_
           intro a hA
           refine any_tk hA 7 rfl rfl rfl rfl hP (hS.partD (.cons _ (.cons_cons _ (.cons_cons _ .slnil))) 0 rfl (.refl _)) (fun w1 hS => d_move rfl) ?_
           intro a hA
           refine any_tk (v := .pointer (some ⟨g2, 0, none⟩)) hA 8 rfl rfl rfl rfl hP (hS.partD (.cons _ (.cons_cons _ (.cons_cons _ .slnil))) 0 rfl (.refl _)) (fun w1 hS => d_field SmG_fld_26_0 rfl rfl) ?_
           intro a hA
           refine any_tk (v := .pointer (some ⟨g2, 1, none⟩)) hA 9 rfl rfl rfl rfl hP (hS.partD (.cons _ (.cons_cons _ (.cons_cons _ .slnil))) 0 rfl (.refl _)) (fun w1 hS => d_field SmG_fld_24_1 rfl rfl) ?_
           intro a hA
           refine any_tk hA 10 rfl rfl rfl rfl hP (hS.partD (.cons _ (.cons_cons _ (.cons_cons _ .slnil))) 0 rfl (.refl _)) (fun w1 hS => d_load1 hS SmG_is1_22 rfl 1 rfl rfl) ?_
           intro a hA
           refine any_tk (v := .int .i64 ((((words u.num.natAbs).length : Nat) : Int))) hA 11 rfl rfl rfl rfl hP (hS.partD (.cons _ (.cons_cons _ (.cons_cons _ .slnil))) 0 rfl (.refl _)) (fun w1 hS => d_len Tryz.underlying22 rfl) ?_
           intro a hA
           refine any_tk (v := .bool true) hA 12 rfl rfl rfl rfl hP (hS.partD (.cons _ (.cons_cons _ (.cons_cons _ .slnil))) 0 rfl (.refl _)) (fun w1 hS => d_bin rfl rfl (fun w => (bin_gtr w).trans (by rw [show (decide (0 < (((words u.num.natAbs).length : Nat) : Int))) = true from (decide_eq_true (by omega))]))) ?_
           intro a hA
           refine any_tk (v := .bool ((rb (P * u).num))) hA 13 rfl rfl rfl rfl hP (hS.partD (.cons _ (.cons_cons _ (.cons_cons _ .slnil))) 0 rfl (.refl _)) (fun w1 hS => d_pick rfl rfl rfl (by rw [hsg9, hb45]; rfl)) ?_
           intro a hA
           refine any_one (by kernel_rfl) (op_call hA 20 rfl rfl rfl rfl (enters_func  rfl rfl (fun w => by kernel_rfl)) (rtimes_as hn9 _ _ (hS.rd 0 rfl) (hS.rd 9 rfl) (by omega) (by omega)) ?_)
           rintro _ w277 ⟨ro273, rc274, rfl, ho275, hb276⟩
           replace hS := hS.call hb276
           replace hS := hS.addR ho275.rd
           refine ⟨_, rfl, (hS.partD (.cons _ (.cons_cons _ (.cons_cons _ .slnil))) 1 rfl (.refl _)), ?_⟩
           intro a hA
           refine any_one (by kernel_rfl) (op_call hA 27 rfl rfl rfl rfl (enters_func  rfl rfl (fun w => by kernel_rfl)) (rtimes_as hd9 _ _ (hS.rd 2 rfl) (hS.rd 9 rfl) (by omega) (by omega)) ?_)
           rintro _ w282 ⟨ro278, rc279, rfl, ho280, hb281⟩
           replace hS := hS.call hb281
           replace hS := hS.addR ho280.rd
           refine ⟨_, rfl, (hS.partD (.cons _ (.cons_cons _ (.cons_cons _ .slnil))) 2 rfl (.refl _)), ?_⟩
           intro a hA
           refine any_tk (v := .agg #[.bool ((rb (P * u).num)), .slice ro273 ((words (P * u).num.natAbs).length) rc274, .slice ro278 ((words (P * u).den).length) rc279]) hA 28 rfl rfl rfl rfl hP (hS.partD (.cons _ (.cons_cons _ (.cons_cons _ .slnil))) 2 rfl (.refl _)) (fun w1 hS => d_build rfl (fun w => by kernel_rfl)) ?_
           intro a hA
           refine any_tk (v := .pointer (some ⟨g31, 0, none⟩)) hA 29 rfl rfl rfl rfl hP (hS.partD (.cons _ (.cons_cons _ (.cons_cons _ .slnil))) 2 rfl (.refl _)) (fun w1 hS => d_field SmG_fld_26_0 rfl rfl) ?_
           intro a hA
           refine any_one (by kernel_rfl) (op_store (us := [.bool ((rb (P * u).num)), .slice ro273 ((words (P * u).num.natAbs).length) rc274, .slice ro278 ((words (P * u).den).length) rc279, .bool false, .slice p27_3 0 p27_c3, .slice p27_4 1 p27_c4]) hA hS 30 rfl rfl rfl (sets_store rfl rfl rfl (by kernel_rfl) hS 0 rfl rfl rfl) 0 rfl rfl rfl rfl ?_)
           intro w283 hS
           refine ⟨(hS.partD (.cons _ (.cons_cons _ (.cons_cons _ .slnil))) 2 rfl (.refl _)), ?_⟩
           refine any_end (by kernel_rfl) ?_
           refine hJ186 _ _ ⟨ro273, rc274, ro278, rc279, hA.keep _ ⟨rfl, rfl, rfl, rfl, rfl, rfl, rfl, rfl, rfl, rfl, rfl, rfl, rfl, rfl, rfl, rfl, rfl, rfl, rfl, rfl, rfl, rfl, rfl, rfl, rfl, rfl, rfl, rfl, trivial⟩, (St.pickRL hS ⟨⟨0, rfl⟩, ⟨⟨1, rfl⟩, ⟨⟨2, rfl⟩, ⟨⟨3, rfl⟩, ⟨⟨4, rfl⟩, ⟨⟨5, rfl⟩, ⟨⟨6, rfl⟩, ⟨⟨7, rfl⟩, ⟨⟨8, rfl⟩, ⟨⟨9, rfl⟩, ⟨⟨10, rfl⟩, ⟨⟨11, rfl⟩, trivial⟩⟩⟩⟩⟩⟩⟩⟩⟩⟩⟩⟩ [0, 1, 2] rfl (by decide)), ho280.nocap, ho280.caps, ho275.nocap, ho275.caps⟩
   · have hb41' := of_decide_eq_false hb41
     refine seq_do (v := .bool false) hA rfl rfl rfl (d_bin rfl rfl (fun w => (bin_lss w).trans (by rw [hb41]))) ?_
     intro a hA
     refine seq_end ?_
     refine hK40 _ _ ?_
     refine wp_cond_false (hA.ev rfl) ?_
     refine wp_exit ?_
     refine hK34 _ _ ?_
     refine wp_seq_k (fun K284 hK284 => ?_)
     refine wp_seq_k (fun K285 hK285 => ?_)
     refine wp_region_lit ?_
     refine seq_do hA rfl rfl rfl (d_move rfl) ?_
     intro a hA
     refine seq_do (v := .bool false) hA rfl rfl rfl (d_bin rfl rfl (fun w => (bin_lss w).trans (by rw [show (decide (((N : Nat) : Int) < 0)) = false from (decide_eq_false (by omega))]))) ?_
     intro a hA
     refine seq_end ?_
     refine hK285 _ _ ?_
     refine wp_cond_false (hA.ev rfl) ?_
     refine wp_skip ?_
     refine hK284 _ _ ?_
     refine wp_seq_k (fun K286 hK286 => ?_)
     refine wp_region_lit ?_
     refine seq_do hA rfl rfl rfl (d_loadS hS SmG_isS_26 rfl 0 rfl (cs := [.bool ((rb P.num)), .slice po1 ((words P.num.natAbs).length) poc1, .slice po2 ((words P.den).length) poc2, .bool false, .slice p27_3 0 p27_c3, .slice p27_4 1 p27_c4]) rfl rfl) ?_
     intro a hA
     refine seq_call hA rfl rfl rfl (enters_func  rfl rfl (fun w => by kernel_rfl)) (rfit0_any (show Nm _ (Q6.real P) po1 poc1 po2 poc2 p27_3 p27_c3 p27_4 p27_c4 from ⟨⟨(hS.rd 0 rfl), kn1.1, kn1.2⟩, ⟨(hS.rd 1 rfl), kn2.1, kn2.2⟩, ⟨(hS.rd 3 rfl), hn28.s3.nil, hn28.s3.cap⟩, ⟨(hS.rd 2 rfl), hn28.s4.nil, hn28.s4.cap⟩⟩) (LP.mono (by decide))) ?_
     rintro _ w290 ⟨p287_1, p287_c1, p287_2, p287_c2, p287_3, p287_c3, p287_4, p287_c4, rfl, hn288, hb289⟩
     replace hS := hS.call hb289
     replace hS := hS.addR hn288.s1.rd
     replace hS := hS.addR hn288.s2.rd
     replace hS := hS.addR hn288.s3.rd
     replace hS := hS.addR hn288.s4.rd
     refine ⟨_, rfl, ?_⟩
     intro a hA
     refine seq_do (v := .agg #[.bool ((ratS P 0).1.b1), .slice p287_1 (((ratS P 0).1.t1).length) p287_c1, .slice p287_2 (((ratS P 0).1.q1).length) p287_c2, .bool ((ratS P 0).1.b2), .slice p287_3 (((ratS P 0).1.t2).length) p287_c3, .slice p287_4 (((ratS P 0).1.q2).length) p287_c4]) hA rfl rfl rfl (d_extract (vs := [.agg #[.bool ((ratS P 0).1.b1), .slice p287_1 (((ratS P 0).1.t1).length) p287_c1, .slice p287_2 (((ratS P 0).1.q1).length) p287_c2, .bool ((ratS P 0).1.b2), .slice p287_3 (((ratS P 0).1.t2).length) p287_c3, .slice p287_4 (((ratS P 0).1.q2).length) p287_c4], .int .i64 ((ratS P 0).2)]) rfl rfl) ?_
     intro a hA
     refine seq_do (v := .int .i64 ((ratS P 0).2)) hA rfl rfl rfl (d_extract (vs := [.agg #[.bool ((ratS P 0).1.b1), .slice p287_1 (((ratS P 0).1.t1).length) p287_c1, .slice p287_2 (((ratS P 0).1.q1).length) p287_c2, .bool ((ratS P 0).1.b2), .slice p287_3 (((ratS P 0).1.t2).length) p287_c3, .slice p287_4 (((ratS P 0).1.q2).length) p287_c4], .int .i64 ((ratS P 0).2)]) rfl rfl) ?_
     intro a hA
     refine seq_store (us := [.bool ((ratS P 0).1.b1), .slice p287_1 (((ratS P 0).1.t1).length) p287_c1, .slice p287_2 (((ratS P 0).1.q1).length) p287_c2, .bool ((ratS P 0).1.b2), .slice p287_3 (((ratS P 0).1.t2).length) p287_c3, .slice p287_4 (((ratS P 0).1.q2).length) p287_c4]) hA hS rfl rfl (sets_store rfl rfl rfl (by kernel_rfl) hS 1 rfl rfl rfl) 1 rfl rfl rfl rfl ?_
     intro w291 hS
     refine seq_do hA rfl rfl rfl (d_assign rfl) ?_
     intro a hA
     refine seq_end ?_
     refine hK286 _ _ ?_
     refine wp_ret ?_
     refine hret _ _ ?_
     refine ends (v := .tuple #[.agg #[.bool ((ratS P 0).1.b1), .slice p287_1 (((ratS P 0).1.t1).length) p287_c1, .slice p287_2 (((ratS P 0).1.q1).length) p287_c2, .bool ((ratS P 0).1.b2), .slice p287_3 (((ratS P 0).1.t2).length) p287_c3, .slice p287_4 (((ratS P 0).1.q2).length) p287_c4], .int .i64 ((ratS P 0).2)]) hA rfl (.cons (res_cell hS SmG_isS_26 rfl 1 rfl (cs := [.bool ((ratS P 0).1.b1), .slice p287_1 (((ratS P 0).1.t1).length) p287_c1, .slice p287_2 (((ratS P 0).1.q1).length) p287_c2, .bool ((ratS P 0).1.b2), .slice p287_3 (((ratS P 0).1.t2).length) p287_c3, .slice p287_4 (((ratS P 0).1.q2).length) p287_c4]) rfl rfl) (.cons (res_tmp rfl) .nil)) rfl ?_
     obtain rfl : i = N := by omega
     rw [exptQ_pos hu hv h1 h2, if_pos hB9, hp9]
     show AnsN w (ratS _ _) _ _
     exact ⟨p287_1, p287_c1, p287_2, p287_c2, p287_3, p287_c3, p287_4, p287_c4, rfl, ⟨⟨(hS.rd 3 rfl), hn288.s1.nil, hn288.s1.cap⟩, ⟨(hS.rd 2 rfl), hn288.s2.nil, hn288.s2.cap⟩, ⟨(hS.rd 1 rfl), hn288.s3.nil, hn288.s3.cap⟩, ⟨(hS.rd 0 rfl), hn288.s4.nil, hn288.s4.cap⟩⟩, hS.bel⟩
 refine wp_region_lit ?_
 refine seq_do hA rfl rfl rfl (d_loadS hS SmG_isS_26 rfl 1 rfl (cs := [.bool (rb u.num), .slice a1 ((words u.num.natAbs).length) ac1, .slice a2 ((words u.den).length) ac2, .bool (rb v.num), .slice a3 ((words v.num.natAbs).length) ac3, .slice a4 ((words v.den).length) ac4]) rfl rfl) ?_
 intro a hA
 rcases Bool.eq_false_or_eq_true (decide (u = 0 ∧ v = 0)) with hb292 | hb292
 · have hb292' := of_decide_eq_true hb292
   refine seq_call hA rfl rfl rfl (enters_func  rfl rfl (fun w => by kernel_rfl)) (risZero_any (show Nm _ (Q6.rat u v) a1 ac1 a2 ac2 a3 ac3 a4 ac4 from ⟨⟨(hS.rd 3 rfl), ha.s1.nil, ha.s1.cap⟩, ⟨(hS.rd 2 rfl), ha.s2.nil, ha.s2.cap⟩, ⟨(hS.rd 1 rfl), ha.s3.nil, ha.s3.cap⟩, ⟨(hS.rd 0 rfl), ha.s4.nil, ha.s4.cap⟩⟩) hu hv hb292) ?_
   rintro _ w294 ⟨rfl, hb293⟩
   replace hS := hS.call hb293
   refine ⟨_, rfl, ?_⟩
   intro a hA
   refine seq_do hA rfl rfl rfl (d_move rfl) ?_
   intro a hA
   refine seq_do hA rfl rfl rfl (d_move rfl) ?_
   intro a hA
   refine seq_do (v := .bool false) hA rfl rfl rfl (d_bin rfl rfl (fun w => (bin_lss w).trans (by rw [show (decide (((N : Nat) : Int) < 0)) = false from (decide_eq_false (by omega))]))) ?_
   intro a hA
   refine seq_do (v := .bool false) hA rfl rfl rfl (d_pick rfl rfl rfl rfl) ?_
   intro a hA
   refine seq_end ?_
   exact hJ21 _ _ ⟨hA.keep _ ⟨rfl, rfl, rfl, rfl, rfl, rfl, rfl, rfl, rfl, rfl, rfl, rfl, rfl, rfl, rfl, rfl, rfl, trivial⟩, hS⟩
 · have hb292' := of_decide_eq_false hb292
   refine seq_call hA rfl rfl rfl (enters_func  rfl rfl (fun w => by kernel_rfl)) (risZero_any (show Nm _ (Q6.rat u v) a1 ac1 a2 ac2 a3 ac3 a4 ac4 from ⟨⟨(hS.rd 3 rfl), ha.s1.nil, ha.s1.cap⟩, ⟨(hS.rd 2 rfl), ha.s2.nil, ha.s2.cap⟩, ⟨(hS.rd 1 rfl), ha.s3.nil, ha.s3.cap⟩, ⟨(hS.rd 0 rfl), ha.s4.nil, ha.s4.cap⟩⟩) hu hv hb292) ?_
   rintro _ w296 ⟨rfl, hb295⟩
   replace hS := hS.call hb295
   refine ⟨_, rfl, ?_⟩
   intro a hA
   refine seq_do hA rfl rfl rfl (d_move rfl) ?_
   intro a hA
   refine seq_skip hA rfl rfl rfl ?_
   intro a hA
   refine seq_skip hA rfl rfl rfl ?_
   intro a hA
   refine seq_do (v := .bool false) hA rfl rfl rfl (d_pick rfl rfl rfl rfl) ?_
   intro a hA
   refine seq_end ?_
   exact hJ21 _ _ ⟨hA.keep _ ⟨rfl, rfl, rfl, rfl, rfl, rfl, rfl, rfl, rfl, rfl, rfl, rfl, rfl, rfl, rfl, rfl, rfl, trivial⟩, hS⟩
set_option maxHeartbeats 2000000 in
theorem rexRtM_any {w : World} {u v : Rat} {a1 a2 a3 a4 : Option Addr} {ac1 ac2 ac3 ac4 : Nat} (ha : Nm w (Q6.rat u v) a1 ac1 a2 ac2 a3 ac3 a4 ac4) (hu : fitR u) (hv : fitR v) {N : Nat} (h1 : 1 ≤ N) (h2 : N ≤ 1024) (hz : ¬ (u = 0 ∧ v = 0)) (k2 : decide ((Q6.rat u v).t2.length = 0) = true) (hv0 : v = 0) (hsu : rb u.num = true) (LU : LenR 512 u) {i1 i2 : Rat} (j0 : ivR (pwR u v N) = (i1, i2)) (LI : pwB u v N = true → LenR 9000 i1 ∧ LenR 9000 i2) : Calls Tryz.prog 31 #[numV (Q6.rat u v) a1 ac1 a2 ac2 a3 ac3 a4 ac4, .int .i64 (-((N : Nat) : Int))] w (AnsN w (exptQ (Q6.rat u v) (-((N : Nat) : Int)))) := by
 have kU : 0 < (words u.num.natAbs).length := words_len_pos.2 (by have h7 := of_decide_eq_true hsu; omega)
 have hS : St w w [] [(a4, words v.den), (a3, words v.num.natAbs), (a2, words u.den), (a1, words u.num.natAbs)] [] := ((((St.start w).addR ha.s1.rd).addR ha.s2.rd).addR ha.s3.rd).addR ha.s4.rd
 refine walk_of (l := [(0, .agg #[.bool (rb u.num), .slice a1 ((words u.num.natAbs).length) ac1, .slice a2 ((words u.den).length) ac2, .bool (rb v.num), .slice a3 ((words v.num.natAbs).length) ac3, .slice a4 ((words v.den).length) ac4]), (1, .int .i64 (-((N : Nat) : Int)))]) Tryz.func31 rfl Tryz.ntmps31 rfl rfl ?_
 intro Q hret hnorm hP a hA
 refine wp_seq_k (fun K1 hK1 => ?_)
 refine wp_region_lit ?_
 refine seq_new hA hS rfl rfl rfl (fun g => .pointer (some ⟨g, 0, none⟩)) (d_box rfl rfl) rfl ?_
 intro g2 w3 hS a hA
 refine seq_new (vs := [.bool false, .slice none 0 0, .slice none 0 0, .bool false, .slice none 0 0, .slice none 0 0]) (t := 26) hA hS rfl rfl rfl (fun g => .pointer (some ⟨g, 0, none⟩)) (d_alloc (z := .agg #[.bool false, .slice none 0 0, .slice none 0 0, .bool false, .slice none 0 0, .slice none 0 0]) (by kernel_rfl) rfl) rfl ?_
 intro g4 w5 hS a hA
 refine seq_do hA rfl rfl rfl (d_assign rfl) ?_
 intro a hA
 refine seq_end ?_
 refine hK1 _ _ ?_
 refine wp_seq_k (fun K6 hK6 => ?_)
 refine wp_seq_k (fun K7 hK7 => ?_)
 refine wp_region_lit ?_
 refine seq_do hA rfl rfl rfl (d_loadS hS SmG_isS_26 rfl 1 rfl (cs := [.bool (rb u.num), .slice a1 ((words u.num.natAbs).length) ac1, .slice a2 ((words u.den).length) ac2, .bool (rb v.num), .slice a3 ((words v.num.natAbs).length) ac3, .slice a4 ((words v.den).length) ac4]) rfl rfl) ?_
 intro a hA
 refine seq_call hA rfl rfl rfl (enters_func  rfl rfl (fun w => by kernel_rfl)) (rsoundQ_any (show Nm _ (Q6.rat u v) a1 ac1 a2 ac2 a3 ac3 a4 ac4 from ⟨⟨(hS.rd 3 rfl), ha.s1.nil, ha.s1.cap⟩, ⟨(hS.rd 2 rfl), ha.s2.nil, ha.s2.cap⟩, ⟨(hS.rd 1 rfl), ha.s3.nil, ha.s3.cap⟩, ⟨(hS.rd 0 rfl), ha.s4.nil, ha.s4.cap⟩⟩) (lenQ_rat hu hv) (soundQ_rat hu hv)) ?_
 rintro _ w9 ⟨rfl, hb8⟩
 replace hS := hS.call hb8
 refine ⟨_, rfl, ?_⟩
 intro a hA
 refine seq_do (v := .bool false) hA rfl rfl rfl (d_un rfl un_not) ?_
 intro a hA
 refine seq_end ?_
 refine hK7 _ _ ?_
 refine wp_cond_false (hA.ev rfl) ?_
 refine wp_skip ?_
 refine hK6 _ _ ?_
 refine wp_seq_k (fun K10 hK10 => ?_)
 refine wp_seq_k (fun K11 hK11 => ?_)
 refine wp_region_lit ?_
 refine seq_do hA rfl rfl rfl (d_move rfl) ?_
 intro a hA
 refine seq_do (v := .bool false) hA rfl rfl rfl (d_bin rfl rfl (fun w => (bin_lss w).trans (by rw [show (decide (-((N : Nat) : Int) < -1024)) = false from (decide_eq_false (by omega))]))) ?_
 intro a hA
 refine seq_do hA rfl rfl rfl (d_move rfl) ?_
 intro a hA
 refine seq_do hA rfl rfl rfl (d_move rfl) ?_
 intro a hA
 refine seq_do (v := .bool false) hA rfl rfl rfl (d_bin rfl rfl (fun w => (bin_gtr w).trans (by rw [show (decide (1024 < -((N : Nat) : Int))) = false from (decide_eq_false (by omega))]))) ?_
 intro a hA
 refine seq_do (v := .bool false) hA rfl rfl rfl (d_pick rfl rfl rfl rfl) ?_
 intro a hA
 refine seq_end ?_
 refine hK11 _ _ ?_
 refine wp_cond_false (hA.ev rfl) ?_
 refine wp_skip ?_
 refine hK10 _ _ ?_
 refine wp_seq_k (fun K12 hK12 => ?_)
 refine wp_seq_k (fun K13 hK13 => ?_)
 refine wp_region_lit ?_
 refine seq_do hA rfl rfl rfl (d_move rfl) ?_
 intro a hA
 refine seq_do (v := .bool false) hA rfl rfl rfl (d_bin rfl rfl (fun w => (bin_eql w).trans (by rw [show ((-((N : Nat) : Int) == 0)) = false from (beq_eq_false_iff_ne.2 (by omega))]))) ?_
 intro a hA
 refine seq_end ?_
 refine hK13 _ _ ?_
 refine wp_cond_false (hA.ev rfl) ?_
 refine wp_skip ?_
 refine hK12 _ _ ?_
 refine wp_seq_k (fun K14 hK14 => ?_)
 refine wp_seq_k (fun K15 hK15 => ?_)
 refine wp_region_lit ?_
 refine seq_do hA rfl rfl rfl (d_loadS hS SmG_isS_26 rfl 1 rfl (cs := [.bool (rb u.num), .slice a1 ((words u.num.natAbs).length) ac1, .slice a2 ((words u.den).length) ac2, .bool (rb v.num), .slice a3 ((words v.num.natAbs).length) ac3, .slice a4 ((words v.den).length) ac4]) rfl rfl) ?_
 intro a hA
 refine seq_call hA rfl rfl rfl (enters_func  rfl rfl (fun w => by kernel_rfl)) (risZero_any (show Nm _ (Q6.rat u v) a1 ac1 a2 ac2 a3 ac3 a4 ac4 from ⟨⟨(hS.rd 3 rfl), ha.s1.nil, ha.s1.cap⟩, ⟨(hS.rd 2 rfl), ha.s2.nil, ha.s2.cap⟩, ⟨(hS.rd 1 rfl), ha.s3.nil, ha.s3.cap⟩, ⟨(hS.rd 0 rfl), ha.s4.nil, ha.s4.cap⟩⟩) hu hv (decide_eq_false hz)) ?_
 rintro _ w17 ⟨rfl, hb16⟩
 replace hS := hS.call hb16
 refine ⟨_, rfl, ?_⟩
 intro a hA
 refine seq_do hA rfl rfl rfl (d_move rfl) ?_
 intro a hA
 refine seq_skip hA rfl rfl rfl ?_
 intro a hA
 refine seq_skip hA rfl rfl rfl ?_
 intro a hA
 refine seq_do (v := .bool false) hA rfl rfl rfl (d_pick rfl rfl rfl rfl) ?_
 intro a hA
 refine seq_end ?_
 refine hK15 _ _ ?_
 refine wp_cond_false (hA.ev rfl) ?_
 refine wp_skip ?_
 refine hK14 _ _ ?_
 refine wp_seq_k (fun K18 hK18 => ?_)
 refine wp_region_lit ?_
 refine seq_do hA rfl rfl rfl (d_move rfl) ?_
 intro a hA
 refine seq_do hA rfl rfl rfl (d_assign rfl) ?_
 intro a hA
 refine seq_end ?_
 refine hK18 _ _ ?_
 refine wp_seq_k (fun K19 hK19 => ?_)
 refine wp_seq_k (fun K20 hK20 => ?_)
 refine wp_region_lit ?_
 refine seq_do hA rfl rfl rfl (d_move rfl) ?_
 intro a hA
 refine seq_do (v := .bool true) hA rfl rfl rfl (d_bin rfl rfl (fun w => (bin_lss w).trans (by rw [show (decide (-((N : Nat) : Int) < 0)) = true from (decide_eq_true (by omega))]))) ?_
 intro a hA
 refine seq_end ?_
 refine hK20 _ _ ?_
 refine wp_cond_true (hA.ev rfl) ?_
 refine wp_region_lit ?_
 refine seq_do hA rfl rfl rfl (d_move rfl) ?_
 intro a hA
 refine seq_do (v := .int .i64 (((N : Nat) : Int))) hA rfl rfl rfl (d_un rfl (ar_neg (show IntKind.i64.wrap (-(-((N : Nat) : Int))) = ((N : Nat) : Int) from (in_i64 (by omega) (by omega)).trans (by omega)))) ?_
 intro a hA
 refine seq_do hA rfl rfl rfl (d_assign rfl) ?_
 intro a hA
 refine seq_end ?_
 refine hK19 _ _ ?_
 refine wp_seq_k (fun K21 hK21 => ?_)
 refine wp_region_lit ?_
 refine seq_call hA rfl rfl rfl (enters_func  rfl rfl (fun w => by kernel_rfl)) (rint1_any) ?_
 rintro _ w25 ⟨p22_1, p22_c1, p22_2, p22_c2, p22_3, p22_c3, p22_4, p22_c4, rfl, hn23, hb24⟩
 replace hS := hS.call hb24
 replace hS := hS.addR hn23.s1.rd
 replace hS := hS.addR hn23.s2.rd
 replace hS := hS.addR hn23.s3.rd
 replace hS := hS.addR hn23.s4.rd
 refine ⟨_, rfl, ?_⟩
 intro a hA
 refine seq_new (vs := [.bool false, .slice none 0 0, .slice none 0 0, .bool false, .slice none 0 0, .slice none 0 0]) (t := 26) hA hS rfl rfl rfl (fun g => .pointer (some ⟨g, 0, none⟩)) (d_alloc (z := .agg #[.bool false, .slice none 0 0, .slice none 0 0, .bool false, .slice none 0 0, .slice none 0 0]) (by kernel_rfl) rfl) rfl ?_
 intro g26 w27 hS a hA
 refine seq_store (us := [.bool ((rb (1 : Rat).num)), .slice p22_1 ((words (1 : Rat).num.natAbs).length) p22_c1, .slice p22_2 ((words (1 : Rat).den).length) p22_c2, .bool false, .slice p22_3 0 p22_c3, .slice p22_4 1 p22_c4]) hA hS rfl rfl (sets_store rfl rfl rfl (by kernel_rfl) hS 0 rfl rfl rfl) 0 rfl rfl rfl rfl ?_
 intro w28 hS
 refine seq_end ?_
 refine hK21 _ _ ?_
 refine wp_seq_k (fun K29 hK29 => ?_)
 refine wp_seq_k (fun K30 hK30 => ?_)
 refine wp_region_lit ?_
 refine seq_do hA rfl rfl rfl (d_assign rfl) ?_
 intro a hA
 refine seq_end ?_
 refine hK30 _ _ ?_
 refine wp_block ?_
 refine wp_loop_n (fun m a w1 => ∃ (i : Nat) (P : Rat) (po1 : Option Addr) (poc1 : Nat) (po2 : Option Addr) (poc2 : Nat), m = N - i ∧ (i ≤ N ∧ pwR u v i = (P, 0) ∧ pwB u v i = true ∧ LenR 512 P ∧ P = u ^ i ∧ P.num ≠ 0 ∧ Ncap po1 poc1 (words P.num.natAbs) ∧ Ncap po2 poc2 (words P.den)) ∧ Sl a 87 [(0, .agg #[.bool (rb u.num), .slice a1 ((words u.num.natAbs).length) ac1, .slice a2 ((words u.den).length) ac2, .bool (rb v.num), .slice a3 ((words v.num.natAbs).length) ac3, .slice a4 ((words v.den).length) ac4]), (1, .int .i64 (-((N : Nat) : Int))), (2, .pointer (some ⟨g2, 0, none⟩)), (4, .pointer (some ⟨g4, 0, none⟩)), (6, .int .i64 (((N : Nat) : Int))), (7, .pointer (some ⟨g26, 0, none⟩)), (8, .int .i64 (((i : Nat) : Int))), (9, .agg #[.bool (rb u.num), .slice a1 ((words u.num.natAbs).length) ac1, .slice a2 ((words u.den).length) ac2, .bool (rb v.num), .slice a3 ((words v.num.natAbs).length) ac3, .slice a4 ((words v.den).length) ac4]), (10, .bool true), (11, .bool false), (13, .int .i64 (-((N : Nat) : Int))), (14, .bool false), (15, .bool false), (16, .int .i64 (-((N : Nat) : Int))), (17, .bool false), (18, .bool false), (20, .int .i64 (-((N : Nat) : Int))), (21, .bool false), (23, .agg #[.bool (rb u.num), .slice a1 ((words u.num.natAbs).length) ac1, .slice a2 ((words u.den).length) ac2, .bool (rb v.num), .slice a3 ((words v.num.natAbs).length) ac3, .slice a4 ((words v.den).length) ac4]), (24, .bool false), (25, .bool false), (28, .bool false), (30, .int .i64 (-((N : Nat) : Int))), (31, .int .i64 (-((N : Nat) : Int))), (32, .bool true), (33, .int .i64 (-((N : Nat) : Int))), (34, .int .i64 (((N : Nat) : Int))), (35, .agg #[.bool ((rb (1 : Rat).num)), .slice p22_1 ((words (1 : Rat).num.natAbs).length) p22_c1, .slice p22_2 ((words (1 : Rat).den).length) p22_c2, .bool false, .slice p22_3 0 p22_c3, .slice p22_4 1 p22_c4])] ∧ St w w1 [(g26, [.bool ((rb P.num)), .slice po1 ((words P.num.natAbs).length) poc1, .slice po2 ((words P.den).length) poc2, .bool false, .slice p22_3 0 p22_c3, .slice p22_4 1 p22_c4]), (g4, [.bool false, .slice none 0 0, .slice none 0 0, .bool false, .slice none 0 0, .slice none 0 0]), (g2, [.bool (rb u.num), .slice a1 ((words u.num.natAbs).length) ac1, .slice a2 ((words u.den).length) ac2, .bool (rb v.num), .slice a3 ((words v.num.natAbs).length) ac3, .slice a4 ((words v.den).length) ac4])] [(po1, words P.num.natAbs), (po2, words P.den), (p22_4, [1]), (p22_3, []), (p22_2, words (1 : Rat).den), (p22_1, words (1 : Rat).num.natAbs), (a4, words v.den), (a3, words v.num.natAbs), (a2, words u.den), (a1, words u.num.natAbs)] []) _ ⟨0, 1, p22_1, p22_c1, p22_2, p22_c2, rfl, ⟨by omega, rfl, rfl, len_one, (Rat.pow_zero u).symm, (by decide), ⟨hn23.s1.nil, hn23.s1.cap⟩, ⟨hn23.s2.nil, hn23.s2.cap⟩⟩, hA.keep _ ⟨rfl, rfl, rfl, rfl, rfl, rfl, rfl, rfl, rfl, rfl, rfl, rfl, rfl, rfl, rfl, rfl, rfl, rfl, rfl, rfl, rfl, rfl, rfl, rfl, rfl, rfl, rfl, rfl, trivial⟩, ((hS.pickR [(p22_1, words (1 : Rat).num.natAbs), (p22_2, words (1 : Rat).den), (p22_4, [1]), (p22_3, []), (p22_2, words (1 : Rat).den), (p22_1, words (1 : Rat).num.natAbs), (a4, words v.den), (a3, words v.num.natAbs), (a2, words u.den), (a1, words u.num.natAbs)] ⟨⟨3, rfl⟩, ⟨⟨2, rfl⟩, ⟨⟨0, rfl⟩, ⟨⟨1, rfl⟩, ⟨⟨2, rfl⟩, ⟨⟨3, rfl⟩, ⟨⟨4, rfl⟩, ⟨⟨5, rfl⟩, ⟨⟨6, rfl⟩, ⟨⟨7, rfl⟩, trivial⟩⟩⟩⟩⟩⟩⟩⟩⟩⟩).subL _ (.refl _))⟩ ?_
 clear hS hA
 rintro m a w31 ⟨i, P, po1, poc1, po2, poc2, rfl, hinv33, hA, hS⟩ K32 hK32
 obtain ⟨hi9, hp9, hB9, LP, hPw, hPs, kn1, kn2⟩ := hinv33
 have hq9 := rpow_num hPw
 have hn9 : P.num.natAbs * u.num.natAbs = (P * u).num.natAbs := by rw [hq9.1, Int.natAbs_mul]
 have hd9 : P.den * u.den = (P * u).den := hq9.2.symm
 have l9a := LP.1
 have l9b := LP.2
 have l9c := LU.1
 have l9d := LU.2
 have LPu : LenR 9000 (P * u) := (lenR_mul LP LU).mono (by decide)
 have hs9 : pwR u v (i + 1) = (P * u, 0) := by
   show ((pwR u v i).1 * u - (pwR u v i).2 * v, (pwR u v i).1 * v + (pwR u v i).2 * u) = (P * u, 0)
   rw [hp9, hv0]
   congr 1 <;> grind
 have hPu : P * u = u ^ (i + 1) := by rw [hPw, Rat.pow_succ]
 have hsg9 : rb (P * u).num = !rb P.num := by rw [hq9.1]; exact rb_flip hsu hPs
 refine wp_seq_k (fun K34 hK34 => ?_)
 refine wp_seq_k (fun K35 hK35 => ?_)
 refine wp_region_lit ?_
 refine seq_do hA rfl rfl rfl (d_move rfl) ?_
 intro a hA
 refine seq_do hA rfl rfl rfl (d_move rfl) ?_
 intro a hA
 rcases Bool.eq_false_or_eq_true (decide (((i : Nat) : Int) < ((N : Nat) : Int))) with hb36 | hb36
 · have hb36' := of_decide_eq_true hb36
   refine seq_do (v := .bool true) hA rfl rfl rfl (d_bin rfl rfl (fun w => (bin_lss w).trans (by rw [hb36]))) ?_
   intro a hA
   refine seq_end ?_
   refine hK35 _ _ ?_
   refine wp_cond_true (hA.ev rfl) ?_
   refine wp_skip ?_
   refine hK34 _ _ ?_
   refine wp_seq_k (fun K37 hK37 => ?_)
   refine wp_block ?_
   refine wp_seq_k (fun K38 hK38 => ?_)
   refine wp_seq_k (fun K39 hK39 => ?_)
   refine wp_region_lit ?_
   refine seq_do hA rfl rfl rfl (d_loadS hS SmG_isS_26 rfl 2 rfl (cs := [.bool (rb u.num), .slice a1 ((words u.num.natAbs).length) ac1, .slice a2 ((words u.den).length) ac2, .bool (rb v.num), .slice a3 ((words v.num.natAbs).length) ac3, .slice a4 ((words v.den).length) ac4]) rfl rfl) ?_
   intro a hA
   rcases Bool.eq_false_or_eq_true ((rb P.num)) with hb40 | hb40
   · refine seq_call hA rfl rfl rfl (enters_func  rfl rfl (fun w => by kernel_rfl)) (rrealQ_any (show Nm _ (Q6.rat u v) a1 ac1 a2 ac2 a3 ac3 a4 ac4 from ⟨⟨(hS.rd 9 rfl), ha.s1.nil, ha.s1.cap⟩, ⟨(hS.rd 8 rfl), ha.s2.nil, ha.s2.cap⟩, ⟨(hS.rd 7 rfl), ha.s3.nil, ha.s3.cap⟩, ⟨(hS.rd 6 rfl), ha.s4.nil, ha.s4.cap⟩⟩) (lenQ_rat hu hv) k2) ?_
     rintro _ w42 ⟨rfl, hb41⟩
     replace hS := hS.call hb41
     refine ⟨_, rfl, ?_⟩
     intro a hA
     refine seq_end ?_
     refine hK39 _ _ ?_
     refine wp_cond_true (hA.ev rfl) ?_
     have hJ62 : ∀ a w1, (∃ (J54 : Option Addr) (J55 : Nat) (J56 : Option Addr) (J57 : Nat), Sl a 87 [(0, .agg #[.bool (rb u.num), .slice a1 ((words u.num.natAbs).length) ac1, .slice a2 ((words u.den).length) ac2, .bool (rb v.num), .slice a3 ((words v.num.natAbs).length) ac3, .slice a4 ((words v.den).length) ac4]), (1, .int .i64 (-((N : Nat) : Int))), (2, .pointer (some ⟨g2, 0, none⟩)), (4, .pointer (some ⟨g4, 0, none⟩)), (6, .int .i64 (((N : Nat) : Int))), (7, .pointer (some ⟨g26, 0, none⟩)), (8, .int .i64 (((i : Nat) : Int))), (9, .agg #[.bool (rb u.num), .slice a1 ((words u.num.natAbs).length) ac1, .slice a2 ((words u.den).length) ac2, .bool (rb v.num), .slice a3 ((words v.num.natAbs).length) ac3, .slice a4 ((words v.den).length) ac4]), (10, .bool true), (11, .bool false), (13, .int .i64 (-((N : Nat) : Int))), (14, .bool false), (15, .bool false), (16, .int .i64 (-((N : Nat) : Int))), (17, .bool false), (18, .bool false), (20, .int .i64 (-((N : Nat) : Int))), (21, .bool false), (23, .agg #[.bool (rb u.num), .slice a1 ((words u.num.natAbs).length) ac1, .slice a2 ((words u.den).length) ac2, .bool (rb v.num), .slice a3 ((words v.num.natAbs).length) ac3, .slice a4 ((words v.den).length) ac4]), (24, .bool false), (25, .bool false), (28, .bool false), (30, .int .i64 (-((N : Nat) : Int))), (31, .int .i64 (-((N : Nat) : Int))), (32, .bool true), (33, .int .i64 (-((N : Nat) : Int))), (34, .int .i64 (((N : Nat) : Int))), (35, .agg #[.bool ((rb (1 : Rat).num)), .slice p22_1 ((words (1 : Rat).num.natAbs).length) p22_c1, .slice p22_2 ((words (1 : Rat).den).length) p22_c2, .bool false, .slice p22_3 0 p22_c3, .slice p22_4 1 p22_c4]), (36, .int .i64 (((i : Nat) : Int))), (37, .int .i64 (((N : Nat) : Int))), (38, .bool true), (41, .agg #[.bool (rb u.num), .slice a1 ((words u.num.natAbs).length) ac1, .slice a2 ((words u.den).length) ac2, .bool (rb v.num), .slice a3 ((words v.num.natAbs).length) ac3, .slice a4 ((words v.den).length) ac4]), (42, .bool true)] ∧ St w w1 [(g26, [.bool ((rb (P * u).num)), .slice J54 ((words (P * u).num.natAbs).length) J55, .slice J56 ((words (P * u).den).length) J57, .bool false, .slice p22_3 0 p22_c3, .slice p22_4 1 p22_c4]), (g4, [.bool false, .slice none 0 0, .slice none 0 0, .bool false, .slice none 0 0, .slice none 0 0]), (g2, [.bool (rb u.num), .slice a1 ((words u.num.natAbs).length) ac1, .slice a2 ((words u.den).length) ac2, .bool (rb v.num), .slice a3 ((words v.num.natAbs).length) ac3, .slice a4 ((words v.den).length) ac4])] [(J56, words (P * u).den), (J54, words (P * u).num.natAbs), (po1, words P.num.natAbs), (po2, words P.den), (p22_4, [1]), (p22_3, []), (p22_2, words (1 : Rat).den), (p22_1, words (1 : Rat).num.natAbs), (a4, words v.den), (a3, words v.num.natAbs), (a2, words u.den), (a1, words u.num.natAbs)] [] ∧ (J56 = none → J57 = 0) ∧ (words (P * u).den : List Nat).length ≤ J57 ∧ (J54 = none → J55 = 0) ∧ (words (P * u).num.natAbs : List Nat).length ≤ J55) → K38 a w1 := by
       clear hA hS
       rintro a w63 ⟨J54, J55, J56, J57, hA, hS, hn58, hc59, hn60, hc61⟩
       refine hK38 _ _ ?_
       refine wp_seq_k (fun K64 hK64 => ?_)
       refine wp_region_lit ?_
       refine seq_do hA rfl rfl rfl (d_loadS hS SmG_isS_26 rfl 0 rfl (cs := [.bool ((rb (P * u).num)), .slice J54 ((words (P * u).num.natAbs).length) J55, .slice J56 ((words (P * u).den).length) J57, .bool false, .slice p22_3 0 p22_c3, .slice p22_4 1 p22_c4]) rfl rfl) ?_
       intro a hA
       rcases Bool.eq_false_or_eq_true (decide (¬ (fitR (P * u) ∧ fitR 0))) with hb65 | hb65
       · have hb65' := of_decide_eq_true hb65
         refine seq_call hA rfl rfl rfl (enters_func  rfl rfl (fun w => by kernel_rfl)) (rlarge0_any (show Nm _ (Q6.real (P * u)) J54 J55 J56 J57 p22_3 p22_c3 p22_4 p22_c4 from ⟨⟨(hS.rd 1 rfl), hn60, hc61⟩, ⟨(hS.rd 0 rfl), hn58, hc59⟩, ⟨(hS.rd 5 rfl), hn23.s3.nil, hn23.s3.cap⟩, ⟨(hS.rd 4 rfl), hn23.s4.nil, hn23.s4.cap⟩⟩) LPu hb65) ?_
         rintro _ w67 ⟨rfl, hb66⟩
         replace hS := hS.call hb66
         refine ⟨_, rfl, ?_⟩
         intro a hA
         refine seq_end ?_
         refine hK64 _ _ ?_
         refine wp_cond_true (hA.ev rfl) ?_
         refine wp_seq_k (fun K68 hK68 => ?_)
         refine wp_region_lit ?_
         refine seq_do (v := .agg #[.bool false, .slice none 0 0, .slice none 0 0, .bool false, .slice none 0 0, .slice none 0 0]) hA rfl rfl rfl (d_build rfl (fun w => by kernel_rfl)) ?_
         intro a hA
         refine seq_store (us := [.bool false, .slice none 0 0, .slice none 0 0, .bool false, .slice none 0 0, .slice none 0 0]) hA hS rfl rfl (sets_store rfl rfl rfl (by kernel_rfl) hS 1 rfl rfl rfl) 1 rfl rfl rfl rfl ?_
         intro w69 hS
         refine seq_do hA rfl rfl rfl (d_assign rfl) ?_
         intro a hA
         refine seq_end ?_
         refine hK68 _ _ ?_
         refine wp_ret ?_
         refine hret _ _ ?_
         refine ends (v := .tuple #[.agg #[.bool false, .slice none 0 0, .slice none 0 0, .bool false, .slice none 0 0, .slice none 0 0], .int .i64 4]) hA rfl (.cons (res_cell hS SmG_isS_26 rfl 1 rfl (cs := [.bool false, .slice none 0 0, .slice none 0 0, .bool false, .slice none 0 0, .slice none 0 0]) rfl rfl) (.cons (res_tmp rfl) .nil)) rfl ?_
         rw [exptQ_neg hu hv (by omega) h2 hz, if_neg (by rw [(pwB_stop (k := i + 1) (by omega) (by have h7 := of_decide_eq_true hb65; rw [hs9]; exact h7))]; decide)]
         exact ⟨none, 0, none, 0, none, 0, none, 0, rfl, ⟨(Sc.none _), (Sc.none _), (Sc.none _), (Sc.none _)⟩, hS.bel⟩
       · have hb65' := of_decide_eq_false hb65
         refine seq_call hA rfl rfl rfl (enters_func  rfl rfl (fun w => by kernel_rfl)) (rlarge0_any (show Nm _ (Q6.real (P * u)) J54 J55 J56 J57 p22_3 p22_c3 p22_4 p22_c4 from ⟨⟨(hS.rd 1 rfl), hn60, hc61⟩, ⟨(hS.rd 0 rfl), hn58, hc59⟩, ⟨(hS.rd 5 rfl), hn23.s3.nil, hn23.s3.cap⟩, ⟨(hS.rd 4 rfl), hn23.s4.nil, hn23.s4.cap⟩⟩) LPu hb65) ?_
         rintro _ w71 ⟨rfl, hb70⟩
         replace hS := hS.call hb70
         refine ⟨_, rfl, ?_⟩
         intro a hA
         refine seq_end ?_
         refine hK64 _ _ ?_
         refine wp_cond_false (hA.ev rfl) ?_
         refine wp_skip ?_
         refine hK37 _ _ ?_
         refine wp_region_lit ?_
         refine seq_do hA rfl rfl rfl (d_move rfl) ?_
         intro a hA
         refine seq_do (v := .int .i64 (((i + 1 : Nat) : Int))) hA rfl rfl rfl (d_bin rfl rfl (fun w => (bin_add (i64In (by omega) (by omega)) w).trans (by rw [show (((i : Nat) : Int) + 1 : Int) = ((i + 1 : Nat) : Int) from by omega]))) ?_
         intro a hA
         refine seq_do hA rfl rfl rfl (d_assign rfl) ?_
         intro a hA
         refine seq_end ?_
         refine hK32 _ _ _ (by omega) ⟨i + 1, (P * u), J54, J55, J56, J57, rfl, ⟨by omega, hs9, pwB_step hB9 (by rw [hs9]; exact (Decidable.not_not.1 (of_decide_eq_false hb65)).1) (by rw [hs9]; exact fit_zero), fit_lenR (Decidable.not_not.1 (of_decide_eq_false hb65)).1, hPu, (by rw [hPu]; exact pow_num_ne (by have h7 := of_decide_eq_true hsu; omega) _), ⟨hn60, hc61⟩, ⟨hn58, hc59⟩⟩, hA.keep _ ⟨rfl, rfl, rfl, rfl, rfl, rfl, rfl, rfl, rfl, rfl, rfl, rfl, rfl, rfl, rfl, rfl, rfl, rfl, rfl, rfl, rfl, rfl, rfl, rfl, rfl, rfl, rfl, rfl, trivial⟩, ((hS.pickR [(J54, words (P * u).num.natAbs), (J56, words (P * u).den), (p22_4, [1]), (p22_3, []), (p22_2, words (1 : Rat).den), (p22_1, words (1 : Rat).num.natAbs), (a4, words v.den), (a3, words v.num.natAbs), (a2, words u.den), (a1, words u.num.natAbs)] ⟨⟨1, rfl⟩, ⟨⟨0, rfl⟩, ⟨⟨4, rfl⟩, ⟨⟨5, rfl⟩, ⟨⟨6, rfl⟩, ⟨⟨7, rfl⟩, ⟨⟨8, rfl⟩, ⟨⟨9, rfl⟩, ⟨⟨10, rfl⟩, ⟨⟨11, rfl⟩, trivial⟩⟩⟩⟩⟩⟩⟩⟩⟩⟩).subL _ (.refl _))⟩
     refine wp_draw (S := fun w1 => St w w1 [(g4, [.bool false, .slice none 0 0, .slice none 0 0, .bool false, .slice none 0 0, .slice none 0 0]), (g2, [.bool (rb u.num), .slice a1 ((words u.num.natAbs).length) ac1, .slice a2 ((words u.den).length) ac2, .bool (rb v.num), .slice a3 ((words v.num.natAbs).length) ac3, .slice a4 ((words v.den).length) ac4])] [(po1, words P.num.natAbs), (po2, words P.den), (p22_4, [1]), (p22_3, []), (p22_2, words (1 : Rat).den), (p22_1, words (1 : Rat).num.natAbs), (a4, words v.den), (a3, words v.num.natAbs), (a2, words u.den), (a1, words u.num.natAbs)] []) (by kernel_rfl) ?_
     replace hS := hS.drew
     refine any_tk (v := .pointer (some ⟨g26, 0, none⟩)) hA 0 rfl rfl rfl rfl hP (hS.partD (.cons _ (.cons_cons _ (.cons_cons _ .slnil))) 0 rfl (.refl _)) (fun w1 hS => d_field SmG_fld_26_0 rfl rfl) ?_
     intro a hA
     refine any_tk (v := .pointer (some ⟨g26, 0, none⟩)) hA 1 rfl rfl rfl rfl hP (hS.partD (.cons _ (.cons_cons _ (.cons_cons _ .slnil))) 0 rfl (.refl _)) (fun w1 hS => d_field SmG_fld_24_0 rfl rfl) ?_
     intro a hA
     refine any_tk (v := .pointer (some ⟨g2, 0, none⟩)) hA 3 rfl rfl rfl rfl hP (hS.partD (.cons _ (.cons_cons _ (.cons_cons _ .slnil))) 0 rfl (.refl _)) (fun w1 hS => d_field SmG_fld_26_0 rfl rfl) ?_
     intro a hA
     refine any_tk (v := .pointer (some ⟨g2, 0, none⟩)) hA 4 rfl rfl rfl rfl hP (hS.partD (.cons _ (.cons_cons _ (.cons_cons _ .slnil))) 0 rfl (.refl _)) (fun w1 hS => d_field SmG_fld_24_0 rfl rfl) ?_
     intro a hA
     refine any_tk hA 5 rfl rfl rfl rfl hP (hS.partD (.cons _ (.cons_cons _ (.cons_cons _ .slnil))) 0 rfl (.refl _)) (fun w1 hS => d_load1 hS SmG_is1_4 rfl 1 rfl rfl) ?_
     intro a hA
     refine any_tk (v := .pointer (some ⟨g26, 0, none⟩)) hA 14 rfl rfl rfl rfl hP (hS.partD (.cons _ (.cons_cons _ (.cons_cons _ .slnil))) 0 rfl (.refl _)) (fun w1 hS => d_field SmG_fld_26_0 rfl rfl) ?_
     intro a hA
     refine any_tk (v := .pointer (some ⟨g26, 1, none⟩)) hA 15 rfl rfl rfl rfl hP (hS.partD (.cons _ (.cons_cons _ (.cons_cons _ .slnil))) 0 rfl (.refl _)) (fun w1 hS => d_field SmG_fld_24_1 rfl rfl) ?_
     intro a hA
     refine any_tk (v := .pointer (some ⟨g2, 0, none⟩)) hA 17 rfl rfl rfl rfl hP (hS.partD (.cons _ (.cons_cons _ (.cons_cons _ .slnil))) 0 rfl (.refl _)) (fun w1 hS => d_field SmG_fld_26_0 rfl rfl) ?_
     intro a hA
     refine any_tk (v := .pointer (some ⟨g2, 1, none⟩)) hA 18 rfl rfl rfl rfl hP (hS.partD (.cons _ (.cons_cons _ (.cons_cons _ .slnil))) 0 rfl (.refl _)) (fun w1 hS => d_field SmG_fld_24_1 rfl rfl) ?_
     intro a hA
     refine any_tk hA 19 rfl rfl rfl rfl hP (hS.partD (.cons _ (.cons_cons _ (.cons_cons _ .slnil))) 0 rfl (.refl _)) (fun w1 hS => d_load1 hS SmG_is1_22 rfl 1 rfl rfl) ?_
     intro a hA
     refine any_tk (v := .pointer (some ⟨g26, 0, none⟩)) hA 21 rfl rfl rfl rfl hP (hS.partD (.cons _ (.cons_cons _ (.cons_cons _ .slnil))) 0 rfl (.refl _)) (fun w1 hS => d_field SmG_fld_26_0 rfl rfl) ?_
     intro a hA
     refine any_tk (v := .pointer (some ⟨g26, 2, none⟩)) hA 22 rfl rfl rfl rfl hP (hS.partD (.cons _ (.cons_cons _ (.cons_cons _ .slnil))) 0 rfl (.refl _)) (fun w1 hS => d_field SmG_fld_24_2 rfl rfl) ?_
     intro a hA
     refine any_tk (v := .pointer (some ⟨g2, 0, none⟩)) hA 24 rfl rfl rfl rfl hP (hS.partD (.cons _ (.cons_cons _ (.cons_cons _ .slnil))) 0 rfl (.refl _)) (fun w1 hS => d_field SmG_fld_26_0 rfl rfl) ?_
     intro a hA
     refine any_tk (v := .pointer (some ⟨g2, 2, none⟩)) hA 25 rfl rfl rfl rfl hP (hS.partD (.cons _ (.cons_cons _ (.cons_cons _ .slnil))) 0 rfl (.refl _)) (fun w1 hS => d_field SmG_fld_24_2 rfl rfl) ?_
     intro a hA
     refine any_tk hA 26 rfl rfl rfl rfl hP (hS.partD (.cons _ (.cons_cons _ (.cons_cons _ .slnil))) 0 rfl (.refl _)) (fun w1 hS => d_load1 hS SmG_is1_22 rfl 1 rfl rfl) ?_
     intro a hA
     refine any_many (rs := [2, 16, 23]) (by kernel_rfl) (by simp) ⟨?_, ?_, ?_, trivial⟩
     · refine op_do hA 2 rfl rfl rfl rfl (d_load1 hS SmG_is1_4 rfl 0 rfl rfl) (hS.partD (.cons _ (.cons_cons _ (.cons_cons _ .slnil))) 0 rfl (.refl _)) ?_
       intro a hA
       refine any_tk (v := .bool false) hA 6 rfl rfl rfl rfl hP (hS.partD (.cons _ (.cons_cons _ (.cons_cons _ .slnil))) 0 rfl (.refl _)) (fun w1 hS => d_bin rfl rfl (fun w => ((bin_neqB Tryz.underlying4) w).trans (by rw [show (!((rb P.num) == rb u.num)) = false from (by rw [hb40, hsu]; rfl)]))) ?_
       intro a hA
       refine any_tk hA 7 rfl rfl rfl rfl hP (hS.partD (.cons _ (.cons_cons _ (.cons_cons _ .slnil))) 0 rfl (.refl _)) (fun w1 hS => d_move rfl) ?_
       intro a hA
       refine any_skip hA 8 rfl rfl rfl rfl (by kernel_rfl) (by kernel_rfl) (by kernel_rfl) (fun c a w h => hP c a _ _ w h) (hS.partD (.cons _ (.cons_cons _ (.cons_cons _ .slnil))) 0 rfl (.refl _)) ?_
       intro a hA
       refine any_skip hA 9 rfl rfl rfl rfl (by kernel_rfl) (by kernel_rfl) (by kernel_rfl) (fun c a w h => hP c a _ _ w h) (hS.partD (.cons _ (.cons_cons _ (.cons_cons _ .slnil))) 0 rfl (.refl _)) ?_
       intro a hA
       refine any_skip hA 10 rfl rfl rfl rfl (by kernel_rfl) (by kernel_rfl) (by kernel_rfl) (fun c a w h => hP c a _ _ w h) (hS.partD (.cons _ (.cons_cons _ (.cons_cons _ .slnil))) 0 rfl (.refl _)) ?_
       intro a hA
       refine any_skip hA 11 rfl rfl rfl rfl (by kernel_rfl) (by kernel_rfl) (by kernel_rfl) (fun c a w h => hP c a _ _ w h) (hS.partD (.cons _ (.cons_cons _ (.cons_cons _ .slnil))) 0 rfl (.refl _)) ?_
       intro a hA
       refine any_skip hA 12 rfl rfl rfl rfl (by kernel_rfl) (by kernel_rfl) (by kernel_rfl) (fun c a w h => hP c a _ _ w h) (hS.partD (.cons _ (.cons_cons _ (.cons_cons _ .slnil))) 0 rfl (.refl _)) ?_
       intro a hA
       refine any_tk (v := .bool ((rb (P * u).num))) hA 13 rfl rfl rfl rfl hP (hS.partD (.cons _ (.cons_cons _ (.cons_cons _ .slnil))) 0 rfl (.refl _)) (fun w1 hS => d_pick rfl rfl rfl (by rw [hsg9, hb40]; rfl)) ?_
       intro a hA
       refine any_many (rs := [16, 23]) (by kernel_rfl) (by simp) ⟨?_, ?_, trivial⟩
       · refine op_do hA 16 rfl rfl rfl rfl (d_load1 hS SmG_is1_22 rfl 0 rfl rfl) (hS.partD (.cons _ (.cons_cons _ (.cons_cons _ .slnil))) 0 rfl (.refl _)) ?_
         intro a hA
         refine any_many (rs := [20, 23]) (by kernel_rfl) (by simp) ⟨?_, ?_, trivial⟩
         · refine op_call hA 20 rfl rfl rfl rfl (enters_func  rfl rfl (fun w => by kernel_rfl)) (rtimes_as hn9 _ _ (hS.rd 0 rfl) (hS.rd 9 rfl) (by omega) (by omega)) ?_
           rintro _ w76 ⟨ro72, rc73, rfl, ho74, hb75⟩
           replace hS := hS.call hb75
           replace hS := hS.addR ho74.rd
           refine ⟨_, rfl, (hS.partD (.cons _ (.cons_cons _ (.cons_cons _ .slnil))) 1 rfl (.refl _)), ?_⟩
           intro a hA
           refine any_one (by kernel_rfl) (op_do hA 23 rfl rfl rfl rfl (d_load1 hS SmG_is1_22 rfl 0 rfl rfl) (hS.partD (.cons _ (.cons_cons _ (.cons_cons _ .slnil))) 1 rfl (.refl _)) ?_)
           intro a hA
           refine any_one (by kernel_rfl) (op_call hA 27 rfl rfl rfl rfl (enters_func  rfl rfl (fun w => by kernel_rfl)) (rtimes_as hd9 _ _ (hS.rd 2 rfl) (hS.rd 9 rfl) (by omega) (by omega)) ?_)
           rintro _ w81 ⟨ro77, rc78, rfl, ho79, hb80⟩
           replace hS := hS.call hb80
           replace hS := hS.addR ho79.rd
           refine ⟨_, rfl, (hS.partD (.cons _ (.cons_cons _ (.cons_cons _ .slnil))) 2 rfl (.refl _)), ?_⟩
           intro a hA
           refine any_tk (v := .agg #[.bool ((rb (P * u).num)), .slice ro72 ((words (P * u).num.natAbs).length) rc73, .slice ro77 ((words (P * u).den).length) rc78]) hA 28 rfl rfl rfl rfl hP (hS.partD (.cons _ (.cons_cons _ (.cons_cons _ .slnil))) 2 rfl (.refl _)) (fun w1 hS => d_build rfl (fun w => by kernel_rfl)) ?_
           intro a hA
           refine any_tk (v := .pointer (some ⟨g26, 0, none⟩)) hA 29 rfl rfl rfl rfl hP (hS.partD (.cons _ (.cons_cons _ (.cons_cons _ .slnil))) 2 rfl (.refl _)) (fun w1 hS => d_field SmG_fld_26_0 rfl rfl) ?_
           intro a hA
           refine any_one (by kernel_rfl) (op_store (us := [.bool ((rb (P * u).num)), .slice ro72 ((words (P * u).num.natAbs).length) rc73, .slice ro77 ((words (P * u).den).length) rc78, .bool false, .slice p22_3 0 p22_c3, .slice p22_4 1 p22_c4]) hA hS 30 rfl rfl rfl (sets_store rfl rfl rfl (by kernel_rfl) hS 0 rfl rfl rfl) 0 rfl rfl rfl rfl ?_)
           intro w82 hS
           refine ⟨(hS.partD (.cons _ (.cons_cons _ (.cons_cons _ .slnil))) 2 rfl (.refl _)), ?_⟩
           refine any_end (by kernel_rfl) ?_
           refine hJ62 _ _ ⟨ro72, rc73, ro77, rc78, hA.keep _ ⟨rfl, rfl, rfl, rfl, rfl, rfl, rfl, rfl, rfl, rfl, rfl, rfl, rfl, rfl, rfl, rfl, rfl, rfl, rfl, rfl, rfl, rfl, rfl, rfl, rfl, rfl, rfl, rfl, rfl, rfl, rfl, rfl, rfl, trivial⟩, (St.pickRL hS ⟨⟨0, rfl⟩, ⟨⟨1, rfl⟩, ⟨⟨2, rfl⟩, ⟨⟨3, rfl⟩, ⟨⟨4, rfl⟩, ⟨⟨5, rfl⟩, ⟨⟨6, rfl⟩, ⟨⟨7, rfl⟩, ⟨⟨8, rfl⟩, ⟨⟨9, rfl⟩, ⟨⟨10, rfl⟩, ⟨⟨11, rfl⟩, trivial⟩⟩⟩⟩⟩⟩⟩⟩⟩⟩⟩⟩ [0, 1, 2] rfl (by decide)), ho79.nocap, ho79.caps, ho74.nocap, ho74.caps⟩
         · refine op_do hA 23 rfl rfl rfl rfl (d_load1 hS SmG_is1_22 rfl 0 rfl rfl) (hS.partD (.cons _ (.cons_cons _ (.cons_cons _ .slnil))) 0 rfl (.refl _)) ?_
           intro a hA
           refine any_one (by kernel_rfl) (op_call hA 20 rfl rfl rfl rfl (enters_func  rfl rfl (fun w => by kernel_rfl)) (rtimes_as hn9 _ _ (hS.rd 0 rfl) (hS.rd 9 rfl) (by omega) (by omega)) ?_)
           rintro _ w87 ⟨ro83, rc84, rfl, ho85, hb86⟩
           replace hS := hS.call hb86
           replace hS := hS.addR ho85.rd
           refine ⟨_, rfl, (hS.partD (.cons _ (.cons_cons _ (.cons_cons _ .slnil))) 1 rfl (.refl _)), ?_⟩
           intro a hA
           refine any_one (by kernel_rfl) (op_call hA 27 rfl rfl rfl rfl (enters_func  rfl rfl (fun w => by kernel_rfl)) (rtimes_as hd9 _ _ (hS.rd 2 rfl) (hS.rd 9 rfl) (by omega) (by omega)) ?_)
           rintro _ w92 ⟨ro88, rc89, rfl, ho90, hb91⟩
           replace hS := hS.call hb91
           replace hS := hS.addR ho90.rd
           refine ⟨_, rfl, (hS.partD (.cons _ (.cons_cons _ (.cons_cons _ .slnil))) 2 rfl (.refl _)), ?_⟩
           intro a hA
           refine any_tk (v := .agg #[.bool ((rb (P * u).num)), .slice ro83 ((words (P * u).num.natAbs).length) rc84, .slice ro88 ((words (P * u).den).length) rc89]) hA 28 rfl rfl rfl rfl hP (hS.partD (.cons _ (.cons_cons _ (.cons_cons _ .slnil))) 2 rfl (.refl _)) (fun w1 hS => d_build rfl (fun w => by kernel_rfl)) ?_
           intro a hA
           refine any_tk (v := .pointer (some ⟨g26, 0, none⟩)) hA 29 rfl rfl rfl rfl hP (hS.partD (.cons _ (.cons_cons _ (.cons_cons _ .slnil))) 2 rfl (.refl _)) (fun w1 hS => d_field SmG_fld_26_0 rfl rfl) ?_
           intro a hA
           refine any_one (by kernel_rfl) (op_store (us := [.bool ((rb (P * u).num)), .slice ro83 ((words (P * u).num.natAbs).length) rc84, .slice ro88 ((words (P * u).den).length) rc89, .bool false, .slice p22_3 0 p22_c3, .slice p22_4 1 p22_c4]) hA hS 30 rfl rfl rfl (sets_store rfl rfl rfl (by kernel_rfl) hS 0 rfl rfl rfl) 0 rfl rfl rfl rfl ?_)
           intro w93 hS
           refine ⟨(hS.partD (.cons _ (.cons_cons _ (.cons_cons _ .slnil))) 2 rfl (.refl _)), ?_⟩
           refine any_end (by kernel_rfl) ?_
           refine hJ62 _ _ ⟨ro83, rc84, ro88, rc89, hA.keep _ ⟨rfl, rfl, rfl, rfl, rfl, rfl, rfl, rfl, rfl, rfl, rfl, rfl, rfl, rfl, rfl, rfl, rfl, rfl, rfl, rfl, rfl, rfl, rfl, rfl, rfl, rfl, rfl, rfl, rfl, rfl, rfl, rfl, rfl, trivial⟩, (St.pickRL hS ⟨⟨0, rfl⟩, ⟨⟨1, rfl⟩, ⟨⟨2, rfl⟩, ⟨⟨3, rfl⟩, ⟨⟨4, rfl⟩, ⟨⟨5, rfl⟩, ⟨⟨6, rfl⟩, ⟨⟨7, rfl⟩, ⟨⟨8, rfl⟩, ⟨⟨9, rfl⟩, ⟨⟨10, rfl⟩, ⟨⟨11, rfl⟩, trivial⟩⟩⟩⟩⟩⟩⟩⟩⟩⟩⟩⟩ [0, 1, 2] rfl (by decide)), ho90.nocap, ho90.caps, ho85.nocap, ho85.caps⟩
       · refine op_do hA 23 rfl rfl rfl rfl (d_load1 hS SmG_is1_22 rfl 0 rfl rfl) (hS.partD (.cons _ (.cons_cons _ (.cons_cons _ .slnil))) 0 rfl (.refl _)) ?_
         intro a hA
         refine any_one (by kernel_rfl) (op_do hA 16 rfl rfl rfl rfl (d_load1 hS SmG_is1_22 rfl 0 rfl rfl) (hS.partD (.cons _ (.cons_cons _ (.cons_cons _ .slnil))) 0 rfl (.refl _)) ?_)
         intro a hA
         refine any_one (by kernel_rfl) (op_call hA 20 rfl rfl rfl rfl (enters_func  rfl rfl (fun w => by kernel_rfl)) (rtimes_as hn9 _ _ (hS.rd 0 rfl) (hS.rd 9 rfl) (by omega) (by omega)) ?_)
         rintro _ w98 ⟨ro94, rc95, rfl, ho96, hb97⟩
         replace hS := hS.call hb97
         replace hS := hS.addR ho96.rd
         refine ⟨_, rfl, (hS.partD (.cons _ (.cons_cons _ (.cons_cons _ .slnil))) 1 rfl (.refl _)), ?_⟩
         intro a hA
         refine any_one (by kernel_rfl) (op_call hA 27 rfl rfl rfl rfl (enters_func  rfl rfl (fun w => by kernel_rfl)) (rtimes_as hd9 _ _ (hS.rd 2 rfl) (hS.rd 9 rfl) (by omega) (by omega)) ?_)
         rintro _ w103 ⟨ro99, rc100, rfl, ho101, hb102⟩
         replace hS := hS.call hb102
         replace hS := hS.addR ho101.rd
         refine ⟨_, rfl, (hS.partD (.cons _ (.cons_cons _ (.cons_cons _ .slnil))) 2 rfl (.refl _)), ?_⟩
         intro a hA
         refine any_tk (v := .agg #[.bool ((rb (P * u).num)), .slice ro94 ((words (P * u).num.natAbs).length) rc95, .slice ro99 ((words (P * u).den).length) rc100]) hA 28 rfl rfl rfl rfl hP (hS.partD (.cons _ (.cons_cons _ (.cons_cons _ .slnil))) 2 rfl (.refl _)) (fun w1 hS => d_build rfl (fun w => by kernel_rfl)) ?_
         intro a hA
         refine any_tk (v := .pointer (some ⟨g26, 0, none⟩)) hA 29 rfl rfl rfl rfl hP (hS.partD (.cons _ (.cons_cons _ (.cons_cons _ .slnil))) 2 rfl (.refl _)) (fun w1 hS => d_field SmG_fld_26_0 rfl rfl) ?_
         intro a hA
         refine any_one (by kernel_rfl) (op_store (us := [.bool ((rb (P * u).num)), .slice ro94 ((words (P * u).num.natAbs).length) rc95, .slice ro99 ((words (P * u).den).length) rc100, .bool false, .slice p22_3 0 p22_c3, .slice p22_4 1 p22_c4]) hA hS 30 rfl rfl rfl (sets_store rfl rfl rfl (by kernel_rfl) hS 0 rfl rfl rfl) 0 rfl rfl rfl rfl ?_)
         intro w104 hS
         refine ⟨(hS.partD (.cons _ (.cons_cons _ (.cons_cons _ .slnil))) 2 rfl (.refl _)), ?_⟩
         refine any_end (by kernel_rfl) ?_
         refine hJ62 _ _ ⟨ro94, rc95, ro99, rc100, hA.keep _ ⟨rfl, rfl, rfl, rfl, rfl, rfl, rfl, rfl, rfl, rfl, rfl, rfl, rfl, rfl, rfl, rfl, rfl, rfl, rfl, rfl, rfl, rfl, rfl, rfl, rfl, rfl, rfl, rfl, rfl, rfl, rfl, rfl, rfl, trivial⟩, (St.pickRL hS ⟨⟨0, rfl⟩, ⟨⟨1, rfl⟩, ⟨⟨2, rfl⟩, ⟨⟨3, rfl⟩, ⟨⟨4, rfl⟩, ⟨⟨5, rfl⟩, ⟨⟨6, rfl⟩, ⟨⟨7, rfl⟩, ⟨⟨8, rfl⟩, ⟨⟨9, rfl⟩, ⟨⟨10, rfl⟩, ⟨⟨11, rfl⟩, trivial⟩⟩⟩⟩⟩⟩⟩⟩⟩⟩⟩⟩ [0, 1, 2] rfl (by decide)), ho101.nocap, ho101.caps, ho96.nocap, ho96.caps⟩
     · refine op_do hA 16 rfl rfl rfl rfl (d_load1 hS SmG_is1_22 rfl 0 rfl rfl) (hS.partD (.cons _ (.cons_cons _ (.cons_cons _ .slnil))) 0 rfl (.refl _)) ?_
       intro a hA
       refine any_many (rs := [2, 23]) (by kernel_rfl) (by simp) ⟨?_, ?_, trivial⟩
       · refine op_do hA 2 rfl rfl rfl rfl (d_load1 hS SmG_is1_4 rfl 0 rfl rfl) (hS.partD (.cons _ (.cons_cons _ (.cons_cons _ .slnil))) 0 rfl (.refl _)) ?_
         intro a hA
         refine any_tk (v := .bool false) hA 6 rfl rfl rfl rfl hP (hS.partD (.cons _ (.cons_cons _ (.cons_cons _ .slnil))) 0 rfl (.refl _)) (fun w1 hS => d_bin rfl rfl (fun w => ((bin_neqB Tryz.underlying4) w).trans (by rw [show (!((rb P.num) == rb u.num)) = false from (by rw [hb40, hsu]; rfl)]))) ?_
         intro a hA
         refine any_tk hA 7 rfl rfl rfl rfl hP (hS.partD (.cons _ (.cons_cons _ (.cons_cons _ .slnil))) 0 rfl (.refl _)) (fun w1 hS => d_move rfl) ?_
         intro a hA
         refine any_skip hA 8 rfl rfl rfl rfl (by kernel_rfl) (by kernel_rfl) (by kernel_rfl) (fun c a w h => hP c a _ _ w h) (hS.partD (.cons _ (.cons_cons _ (.cons_cons _ .slnil))) 0 rfl (.refl _)) ?_
         intro a hA
         refine any_skip hA 9 rfl rfl rfl rfl (by kernel_rfl) (by kernel_rfl) (by kernel_rfl) (fun c a w h => hP c a _ _ w h) (hS.partD (.cons _ (.cons_cons _ (.cons_cons _ .slnil))) 0 rfl (.refl _)) ?_
         intro a hA
         refine any_skip hA 10 rfl rfl rfl rfl (by kernel_rfl) (by kernel_rfl) (by kernel_rfl) (fun c a w h => hP c a _ _ w h) (hS.partD (.cons _ (.cons_cons _ (.cons_cons _ .slnil))) 0 rfl (.refl _)) ?_
         intro a hA
         refine any_skip hA 11 rfl rfl rfl rfl (by kernel_rfl) (by kernel_rfl) (by kernel_rfl) (fun c a w h => hP c a _ _ w h) (hS.partD (.cons _ (.cons_cons _ (.cons_cons _ .slnil))) 0 rfl (.refl _)) ?_
         intro a hA
         refine any_skip hA 12 rfl rfl rfl rfl (by kernel_rfl) (by kernel_rfl) (by kernel_rfl) (fun c a w h => hP c a _ _ w h) (hS.partD (.cons _ (.cons_cons _ (.cons_cons _ .slnil))) 0 rfl (.refl _)) ?_
         intro a hA
         refine any_tk (v := .bool ((rb (P * u).num))) hA 13 rfl rfl rfl rfl hP (hS.partD (.cons _ (.cons_cons _ (.cons_cons _ .slnil))) 0 rfl (.refl _)) (fun w1 hS => d_pick rfl rfl rfl (by rw [hsg9, hb40]; rfl)) ?_
         intro a hA
         refine any_many (rs := [20, 23]) (by kernel_rfl) (by simp) ⟨?_, ?_, trivial⟩
         · refine op_call hA 20 rfl rfl rfl rfl (enters_func  rfl rfl (fun w => by kernel_rfl)) (rtimes_as hn9 _ _ (hS.rd 0 rfl) (hS.rd 9 rfl) (by omega) (by omega)) ?_
           rintro _ w109 ⟨ro105, rc106, rfl, ho107, hb108⟩
           replace hS := hS.call hb108
           replace hS := hS.addR ho107.rd
           refine ⟨_, rfl, (hS.partD (.cons _ (.cons_cons _ (.cons_cons _ .slnil))) 1 rfl (.refl _)), ?_⟩
           intro a hA
           refine any_one (by kernel_rfl) (op_do hA 23 rfl rfl rfl rfl (d_load1 hS SmG_is1_22 rfl 0 rfl rfl) (hS.partD (.cons _ (.cons_cons _ (.cons_cons _ .slnil))) 1 rfl (.refl _)) ?_)
           intro a hA
           refine any_one (by kernel_rfl) (op_call hA 27 rfl rfl rfl rfl (enters_func  rfl rfl (fun w => by kernel_rfl)) (rtimes_as hd9 _ _ (hS.rd 2 rfl) (hS.rd 9 rfl) (by omega) (by omega)) ?_)
           rintro _ w114 ⟨ro110, rc111, rfl, ho112, hb113⟩
           replace hS := hS.call hb113
           replace hS := hS.addR ho112.rd
           refine ⟨_, rfl, (hS.partD (.cons _ (.cons_cons _ (.cons_cons _ .slnil))) 2 rfl (.refl _)), ?_⟩
           intro a hA
           refine any_tk (v := .agg #[.bool ((rb (P * u).num)), .slice ro105 ((words (P * u).num.natAbs).length) rc106, .slice ro110 ((words (P * u).den).length) rc111]) hA 28 rfl rfl rfl rfl hP (hS.partD (.cons _ (.cons_cons _ (.cons_cons _ .slnil))) 2 rfl (.refl _)) (fun w1 hS => d_build rfl (fun w => by kernel_rfl)) ?_
           intro a hA
           refine any_tk (v := .pointer (some ⟨g26, 0, none⟩)) hA 29 rfl rfl rfl rfl hP (hS.partD (.cons _ (.cons_cons _ (.cons_cons _ .slnil))) 2 rfl (.refl _)) (fun w1 hS => d_field SmG_fld_26_0 rfl rfl) ?_
           intro a hA
           refine any_one (by kernel_rfl) (op_store (us := [.bool ((rb (P * u).num)), .slice ro105 ((words (P * u).num.natAbs).length) rc106, .slice ro110 ((words (P * u).den).length) rc111, .bool false, .slice p22_3 0 p22_c3, .slice p22_4 1 p22_c4]) hA hS 30 rfl rfl rfl (sets_store rfl rfl rfl (by kernel_rfl) hS 0 rfl rfl rfl) 0 rfl rfl rfl rfl ?_)
           intro w115 hS
           refine ⟨(hS.partD (.cons _ (.cons_cons _ (.cons_cons _ .slnil))) 2 rfl (.refl _)), ?_⟩
           refine any_end (by kernel_rfl) ?_
           refine hJ62 _ _ ⟨ro105, rc106, ro110, rc111, hA.keep _ ⟨rfl, rfl, rfl, rfl, rfl, rfl, rfl, rfl, rfl, rfl, rfl, rfl, rfl, rfl, rfl, rfl, rfl, rfl, rfl, rfl, rfl, rfl, rfl, rfl, rfl, rfl, rfl, rfl, rfl, rfl, rfl, rfl, rfl, trivial⟩, (St.pickRL hS ⟨⟨0, rfl⟩, ⟨⟨1, rfl⟩, ⟨⟨2, rfl⟩, ⟨⟨3, rfl⟩, ⟨⟨4, rfl⟩, ⟨⟨5, rfl⟩, ⟨⟨6, rfl⟩, ⟨⟨7, rfl⟩, ⟨⟨8, rfl⟩, ⟨⟨9, rfl⟩, ⟨⟨10, rfl⟩, ⟨⟨11, rfl⟩, trivial⟩⟩⟩⟩⟩⟩⟩⟩⟩⟩⟩⟩ [0, 1, 2] rfl (by decide)), ho112.nocap, ho112.caps, ho107.nocap, ho107.caps⟩
         · refine op_do hA 23 rfl rfl rfl rfl (d_load1 hS SmG_is1_22 rfl 0 rfl rfl) (hS.partD (.cons _ (.cons_cons _ (.cons_cons _ .slnil))) 0 rfl (.refl _)) ?_
           intro a hA
           refine any_one (by kernel_rfl) (op_call hA 20 rfl rfl rfl rfl (enters_func  rfl rfl (fun w => by kernel_rfl)) (rtimes_as hn9 _ _ (hS.rd 0 rfl) (hS.rd 9 rfl) (by omega) (by omega)) ?_)
           rintro _ w120 ⟨ro116, rc117, rfl, ho118, hb119⟩
           replace hS := hS.call hb119
           replace hS := hS.addR ho118.rd
           refine ⟨_, rfl, (hS.partD (.cons _ (.cons_cons _ (.cons_cons _ .slnil))) 1 rfl (.refl _)), ?_⟩
           intro a hA
           refine any_one (by kernel_rfl) (op_call hA 27 rfl rfl rfl rfl (enters_func  rfl rfl (fun w => by kernel_rfl)) (rtimes_as hd9 _ _ (hS.rd 2 rfl) (hS.rd 9 rfl) (by omega) (by omega)) ?_)
           rintro _ w125 ⟨ro121, rc122, rfl, ho123, hb124⟩
           replace hS := hS.call hb124
           replace hS := hS.addR ho123.rd
           refine ⟨_, rfl, (hS.partD (.cons _ (.cons_cons _ (.cons_cons _ .slnil))) 2 rfl (.refl _)), ?_⟩
           intro a hA
           refine any_tk (v := .agg #[.bool ((rb (P * u).num)), .slice ro116 ((words (P * u).num.natAbs).length) rc117, .slice ro121 ((words (P * u).den).length) rc122]) hA 28 rfl rfl rfl rfl hP (hS.partD (.cons _ (.cons_cons _ (.cons_cons _ .slnil))) 2 rfl (.refl _)) (fun w1 hS => d_build rfl (fun w => by kernel_rfl)) ?_
           intro a hA
           refine any_tk (v := .pointer (some ⟨g26, 0, none⟩)) hA 29 rfl rfl rfl rfl hP (hS.partD (.cons _ (.cons_cons _ (.cons_cons _ .slnil))) 2 rfl (.refl _)) (fun w1 hS => d_field SmG_fld_26_0 rfl rfl) ?_
           intro a hA
           refine any_one (by kernel_rfl) (op_store (us := [.bool ((rb (P * u).num)), .slice ro116 ((words (P * u).num.natAbs).length) rc117, .slice ro121 ((words (P * u).den).length) rc122, .bool false, .slice p22_3 0 p22_c3, .slice p22_4 1 p22_c4]) hA hS 30 rfl rfl rfl (sets_store rfl rfl rfl (by kernel_rfl) hS 0 rfl rfl rfl) 0 rfl rfl rfl rfl ?_)
           intro w126 hS
           refine ⟨(hS.partD (.cons _ (.cons_cons _ (.cons_cons _ .slnil))) 2 rfl (.refl _)), ?_⟩
           refine any_end (by kernel_rfl) ?_
           refine hJ62 _ _ ⟨ro116, rc117, ro121, rc122, hA.keep _ ⟨rfl, rfl, rfl, rfl, rfl, rfl, rfl, rfl, rfl, rfl, rfl, rfl, rfl, rfl, rfl, rfl, rfl, rfl, rfl, rfl, rfl, rfl, rfl, rfl, rfl, rfl, rfl, rfl, rfl, rfl, rfl, rfl, rfl, trivial⟩, (St.pickRL hS ⟨⟨0, rfl⟩, ⟨⟨1, rfl⟩, ⟨⟨2, rfl⟩, ⟨⟨3, rfl⟩, ⟨⟨4, rfl⟩, ⟨⟨5, rfl⟩, ⟨⟨6, rfl⟩, ⟨⟨7, rfl⟩, ⟨⟨8, rfl⟩, ⟨⟨9, rfl⟩, ⟨⟨10, rfl⟩, ⟨⟨11, rfl⟩, trivial⟩⟩⟩⟩⟩⟩⟩⟩⟩⟩⟩⟩ [0, 1, 2] rfl (by decide)), ho123.nocap, ho123.caps, ho118.nocap, ho118.caps⟩
       · refine op_do hA 23 rfl rfl rfl rfl (d_load1 hS SmG_is1_22 rfl 0 rfl rfl) (hS.partD (.cons _ (.cons_cons _ (.cons_cons _ .slnil))) 0 rfl (.refl _)) ?_
         intro a hA
         refine any_one (by kernel_rfl) (op_do hA 2 rfl rfl rfl rfl (d_load1 hS SmG_is1_4 rfl 0 rfl rfl) (hS.partD (.cons _ (.cons_cons _ (.cons_cons _ .slnil))) 0 rfl (.refl _)) ?_)
         intro a hA
         refine any_tk (v := .bool false) hA 6 rfl rfl rfl rfl hP (hS.partD (.cons _ (.cons_cons _ (.cons_cons _ .slnil))) 0 rfl (.refl _)) (fun w1 hS => d_bin rfl rfl (fun w => ((bin_neqB Tryz.underlying4) w).trans (by rw [show (!((rb P.num) == rb u.num)) = false from (by rw [hb40, hsu]; rfl)]))) ?_
         intro a hA
         refine any_tk hA 7 rfl rfl rfl rfl hP (hS.partD (.cons _ (.cons_cons _ (.cons_cons _ .slnil))) 0 rfl (.refl _)) (fun w1 hS => d_move rfl) ?_
         intro a hA
         refine any_skip hA 8 rfl rfl rfl rfl (by kernel_rfl) (by kernel_rfl) (by kernel_rfl) (fun c a w h => hP c a _ _ w h) (hS.partD (.cons _ (.cons_cons _ (.cons_cons _ .slnil))) 0 rfl (.refl _)) ?_
         intro a hA
         refine any_skip hA 9 rfl rfl rfl rfl (by kernel_rfl) (by kernel_rfl) (by kernel_rfl) (fun c a w h => hP c a _ _ w h) (hS.partD (.cons _ (.cons_cons _ (.cons_cons _ .slnil))) 0 rfl (.refl _)) ?_
         intro a hA
         refine any_skip hA 10 rfl rfl rfl rfl (by kernel_rfl) (by kernel_rfl) (by kernel_rfl) (fun c a w h => hP c a _ _ w h) (hS.partD (.cons _ (.cons_cons _ (.cons_cons _ .slnil))) 0 rfl (.refl _)) ?_
         intro a hA
         refine any_skip hA 11 rfl rfl rfl rfl (by kernel_rfl) (by kernel_rfl) (by kernel_rfl) (fun c a w h => hP c a _ _ w h) (hS.partD (.cons _ (.cons_cons _ (.cons_cons _ .slnil))) 0 rfl (.refl _)) ?_
         intro a hA
         refine any_skip hA 12 rfl rfl rfl rfl (by kernel_rfl) (by kernel_rfl) (by kernel_rfl) (fun c a w h => hP c a _ _ w h) (hS.partD (.cons _ (.cons_cons _ (.cons_cons _ .slnil))) 0 rfl (.refl _)) ?_
         intro a hA
         refine any_tk (v := .bool ((rb (P * u).num))) hA 13 rfl rfl rfl rfl hP (hS.partD (.cons _ (.cons_cons _ (.cons_cons _ .slnil))) 0 rfl (.refl _)) (fun w1 hS => d_pick rfl rfl rfl (by rw [hsg9, hb40]; rfl)) ?_
         intro a hA
         refine any_one (by kernel_rfl) (op_call hA 20 rfl rfl rfl rfl (enters_func  rfl rfl (fun w => by kernel_rfl)) (rtimes_as hn9 _ _ (hS.rd 0 rfl) (hS.rd 9 rfl) (by omega) (by omega)) ?_)
         rintro _ w131 ⟨ro127, rc128, rfl, ho129, hb130⟩
         replace hS := hS.call hb130
         replace hS := hS.addR ho129.rd
         refine ⟨_, rfl, (hS.partD (.cons _ (.cons_cons _ (.cons_cons _ .slnil))) 1 rfl (.refl _)), ?_⟩
         intro a hA
         refine any_one (by kernel_rfl) (op_call hA 27 rfl rfl rfl rfl (enters_func  rfl rfl (fun w => by kernel_rfl)) (rtimes_as hd9 _ _ (hS.rd 2 rfl) (hS.rd 9 rfl) (by omega) (by omega)) ?_)
         rintro _ w136 ⟨ro132, rc133, rfl, ho134, hb135⟩
         replace hS := hS.call hb135
         replace hS := hS.addR ho134.rd
         refine ⟨_, rfl, (hS.partD (.cons _ (.cons_cons _ (.cons_cons _ .slnil))) 2 rfl (.refl _)), ?_⟩
         intro a hA
         refine any_tk (v := .agg #[.bool ((rb (P * u).num)), .slice ro127 ((words (P * u).num.natAbs).length) rc128, .slice ro132 ((words (P * u).den).length) rc133]) hA 28 rfl rfl rfl rfl hP (hS.partD (.cons _ (.cons_cons _ (.cons_cons _ .slnil))) 2 rfl (.refl _)) (fun w1 hS => d_build rfl (fun w => by kernel_rfl)) ?_
         intro a hA
         refine any_tk (v := .pointer (some ⟨g26, 0, none⟩)) hA 29 rfl rfl rfl rfl hP (hS.partD (.cons _ (.cons_cons _ (.cons_cons _ .slnil))) 2 rfl (.refl _)) (fun w1 hS => d_field SmG_fld_26_0 rfl rfl) ?_
         intro a hA
         refine any_one (by kernel_rfl) (op_store (us := [.bool ((rb (P * u).num)), .slice ro127 ((words (P * u).num.natAbs).length) rc128, .slice ro132 ((words (P * u).den).length) rc133, .bool false, .slice p22_3 0 p22_c3, .slice p22_4 1 p22_c4]) hA hS 30 rfl rfl rfl (sets_store rfl rfl rfl (by kernel_rfl) hS 0 rfl rfl rfl) 0 rfl rfl rfl rfl ?_)
         intro w137 hS
         refine ⟨(hS.partD (.cons _ (.cons_cons _ (.cons_cons _ .slnil))) 2 rfl (.refl _)), ?_⟩
         refine any_end (by kernel_rfl) ?_
         refine hJ62 _ _ ⟨ro127, rc128, ro132, rc133, hA.keep _ ⟨rfl, rfl, rfl, rfl, rfl, rfl, rfl, rfl, rfl, rfl, rfl, rfl, rfl, rfl, rfl, rfl, rfl, rfl, rfl, rfl, rfl, rfl, rfl, rfl, rfl, rfl, rfl, rfl, rfl, rfl, rfl, rfl, rfl, trivial⟩, (St.pickRL hS ⟨⟨0, rfl⟩, ⟨⟨1, rfl⟩, ⟨⟨2, rfl⟩, ⟨⟨3, rfl⟩, ⟨⟨4, rfl⟩, ⟨⟨5, rfl⟩, ⟨⟨6, rfl⟩, ⟨⟨7, rfl⟩, ⟨⟨8, rfl⟩, ⟨⟨9, rfl⟩, ⟨⟨10, rfl⟩, ⟨⟨11, rfl⟩, trivial⟩⟩⟩⟩⟩⟩⟩⟩⟩⟩⟩⟩ [0, 1, 2] rfl (by decide)), ho134.nocap, ho134.caps, ho129.nocap, ho129.caps⟩
     · refine op_do hA 23 rfl rfl rfl rfl (d_load1 hS SmG_is1_22 rfl 0 rfl rfl) (hS.partD (.cons _ (.cons_cons _ (.cons_cons _ .slnil))) 0 rfl (.refl _)) ?_
       intro a hA
       refine any_many (rs := [2, 16]) (by kernel_rfl) (by simp) ⟨?_, ?_, trivial⟩
       · refine op_do hA 2 rfl rfl rfl rfl (d_load1 hS SmG_is1_4 rfl 0 rfl rfl) (hS.partD (.cons _ (.cons_cons _ (.cons_cons _ .slnil))) 0 rfl (.refl _)) ?_
         intro a hA
         refine any_tk (v := .bool false) hA 6 rfl rfl rfl rfl hP (hS.partD (.cons _ (.cons_cons _ (.cons_cons _ .slnil))) 0 rfl (.refl _)) (fun w1 hS => d_bin rfl rfl (fun w => ((bin_neqB Tryz.underlying4) w).trans (by rw [show (!((rb P.num) == rb u.num)) = false from (by rw [hb40, hsu]; rfl)]))) ?_
         intro a hA
         refine any_tk hA 7 rfl rfl rfl rfl hP (hS.partD (.cons _ (.cons_cons _ (.cons_cons _ .slnil))) 0 rfl (.refl _)) (fun w1 hS => d_move rfl) ?_
         intro a hA
         refine any_skip hA 8 rfl rfl rfl rfl (by kernel_rfl) (by kernel_rfl) (by kernel_rfl) (fun c a w h => hP c a _ _ w h) (hS.partD (.cons _ (.cons_cons _ (.cons_cons _ .slnil))) 0 rfl (.refl _)) ?_
         intro a hA
         refine any_skip hA 9 rfl rfl rfl rfl (by kernel_rfl) (by kernel_rfl) (by kernel_rfl) (fun c a w h => hP c a _ _ w h) (hS.partD (.cons _ (.cons_cons _ (.cons_cons _ .slnil))) 0 rfl (.refl _)) ?_
         intro a hA
         refine any_skip hA 10 rfl rfl rfl rfl (by kernel_rfl) (by kernel_rfl) (by kernel_rfl) (fun c a w h => hP c a _ _ w h) (hS.partD (.cons _ (.cons_cons _ (.cons_cons _ .slnil))) 0 rfl (.refl _)) ?_
         intro a hA
         refine any_skip hA 11 rfl rfl rfl rfl (by kernel_rfl) (by kernel_rfl) (by kernel_rfl) (fun c a w h => hP c a _ _ w h) (hS.partD (.cons _ (.cons_cons _ (.cons_cons _ .slnil))) 0 rfl (.refl _)) ?_
         intro a hA
         refine any_skip hA 12 rfl rfl rfl rfl (by kernel_rfl) (by kernel_rfl) (by kernel_rfl) (fun c a w h => hP c a _ _ w h) (hS.partD (.cons _ (.cons_cons _ (.cons_cons _ .slnil))) 0 rfl (.refl _)) ?_
         intro a hA
         refine any_tk (v := .bool ((rb (P * u).num))) hA 13 rfl rfl rfl rfl hP (hS.partD (.cons _ (.cons_cons _ (.cons_cons _ .slnil))) 0 rfl (.refl _)) (fun w1 hS => d_pick rfl rfl rfl (by rw [hsg9, hb40]; rfl)) ?_
         intro a hA
         refine any_one (by kernel_rfl) (op_do hA 16 rfl rfl rfl rfl (d_load1 hS SmG_is1_22 rfl 0 rfl rfl) (hS.partD (.cons _ (.cons_cons _ (.cons_cons _ .slnil))) 0 rfl (.refl _)) ?_)
         intro a hA
         refine any_one (by kernel_rfl) (op_call hA 20 rfl rfl rfl rfl (enters_func  rfl rfl (fun w => by kernel_rfl)) (rtimes_as hn9 _ _ (hS.rd 0 rfl) (hS.rd 9 rfl) (by omega) (by omega)) ?_)
         rintro _ w142 ⟨ro138, rc139, rfl, ho140, hb141⟩
         replace hS := hS.call hb141
         replace hS := hS.addR ho140.rd
         refine ⟨_, rfl, (hS.partD (.cons _ (.cons_cons _ (.cons_cons _ .slnil))) 1 rfl (.refl _)), ?_⟩
         intro a hA
         refine any_one (by kernel_rfl) (op_call hA 27 rfl rfl rfl rfl (enters_func  rfl rfl (fun w => by kernel_rfl)) (rtimes_as hd9 _ _ (hS.rd 2 rfl) (hS.rd 9 rfl) (by omega) (by omega)) ?_)
         rintro _ w147 ⟨ro143, rc144, rfl, ho145, hb146⟩
         replace hS := hS.call hb146
         replace hS := hS.addR ho145.rd
         refine ⟨_, rfl, (hS.partD (.cons _ (.cons_cons _ (.cons_cons _ .slnil))) 2 rfl (.refl _)), ?_⟩
         intro a hA
         refine any_tk (v := .agg #[.bool ((rb (P * u).num)), .slice ro138 ((words (P * u).num.natAbs).length) rc139, .slice ro143 ((words (P * u).den).length) rc144]) hA 28 rfl rfl rfl rfl hP (hS.partD (.cons _ (.cons_cons _ (.cons_cons _ .slnil))) 2 rfl (.refl _)) (fun w1 hS => d_build rfl (fun w => by kernel_rfl)) ?_
         intro a hA
         refine any_tk (v := .pointer (some ⟨g26, 0, none⟩)) hA 29 rfl rfl rfl rfl hP (hS.partD (.cons _ (.cons_cons _ (.cons_cons _ .slnil))) 2 rfl (.refl _)) (fun w1 hS => d_field SmG_fld_26_0 rfl rfl) ?_
         intro a hA
         refine any_one (by kernel_rfl) (op_store (us := [.bool ((rb (P * u).num)), .slice ro138 ((words (P * u).num.natAbs).length) rc139, .slice ro143 ((words (P * u).den).length) rc144, .bool false, .slice p22_3 0 p22_c3, .slice p22_4 1 p22_c4]) hA hS 30 rfl rfl rfl (sets_store rfl rfl rfl (by kernel_rfl) hS 0 rfl rfl rfl) 0 rfl rfl rfl rfl ?_)
         intro w148 hS
         refine ⟨(hS.partD (.cons _ (.cons_cons _ (.cons_cons _ .slnil))) 2 rfl (.refl _)), ?_⟩
         refine any_end (by kernel_rfl) ?_
         refine hJ62 _ _ ⟨ro138, rc139, ro143, rc144, hA.keep _ ⟨rfl, rfl, rfl, rfl, rfl, rfl, rfl, rfl, rfl, rfl, rfl, rfl, rfl, rfl, rfl, rfl, rfl, rfl, rfl, rfl, rfl, rfl, rfl, rfl, rfl, rfl, rfl, rfl, rfl, rfl, rfl, rfl, rfl, trivial⟩, (St.pickRL hS ⟨⟨0, rfl⟩, ⟨⟨1, rfl⟩, ⟨⟨2, rfl⟩, ⟨⟨3, rfl⟩, ⟨⟨4, rfl⟩, ⟨⟨5, rfl⟩, ⟨⟨6, rfl⟩, ⟨⟨7, rfl⟩, ⟨⟨8, rfl⟩, ⟨⟨9, rfl⟩, ⟨⟨10, rfl⟩, ⟨⟨11, rfl⟩, trivial⟩⟩⟩⟩⟩⟩⟩⟩⟩⟩⟩⟩ [0, 1, 2] rfl (by decide)), ho145.nocap, ho145.caps, ho140.nocap, ho140.caps⟩
       · refine op_do hA 16 rfl rfl rfl rfl (d_load1 hS SmG_is1_22 rfl 0 rfl rfl) (hS.partD (.cons _ (.cons_cons _ (.cons_cons _ .slnil))) 0 rfl (.refl _)) ?_
         intro a hA
         refine any_one (by kernel_rfl) (op_do hA 2 rfl rfl rfl rfl (d_load1 hS SmG_is1_4 rfl 0 rfl rfl) (hS.partD (.cons _ (.cons_cons _ (.cons_cons _ .slnil))) 0 rfl (.refl _)) ?_)
         intro a hA
         refine any_tk (v := .bool false) hA 6 rfl rfl rfl rfl hP (hS.partD (.cons _ (.cons_cons _ (.cons_cons _ .slnil))) 0 rfl (.refl _)) (fun w1 hS => d_bin rfl rfl (fun w => ((bin_neqB Tryz.underlying4) w).trans (by rw [show (!((rb P.num) == rb u.num)) = false from (by rw [hb40, hsu]; rfl)]))) ?_
         intro a hA
         refine any_tk hA 7 rfl rfl rfl rfl hP (hS.partD (.cons _ (.cons_cons _ (.cons_cons _ .slnil))) 0 rfl (.refl _)) (fun w1 hS => d_move rfl) ?_
         intro a hA
         refine any_skip hA 8 rfl rfl rfl rfl (by kernel_rfl) (by kernel_rfl) (by kernel_rfl) (fun c a w h => hP c a _ _ w h) (hS.partD (.cons _ (.cons_cons _ (.cons_cons _ .slnil))) 0 rfl (.refl _)) ?_
         intro a hA
         refine any_skip hA 9 rfl rfl rfl rfl (by kernel_rfl) (by kernel_rfl) (by kernel_rfl) (fun c a w h => hP c a _ _ w h) (hS.partD (.cons _ (.cons_cons _ (.cons_cons _ .slnil))) 0 rfl (.refl _)) ?_
         intro a hA
         refine any_skip hA 10 rfl rfl rfl rfl (by kernel_rfl) (by kernel_rfl) (by kernel_rfl) (fun c a w h => hP c a _ _ w h) (hS.partD (.cons _ (.cons_cons _ (.cons_cons _ .slnil))) 0 rfl (.refl _)) ?_
         intro a hA
         refine any_skip hA 11 rfl rfl rfl rfl (by kernel_rfl) (by kernel_rfl) (by kernel_rfl) (fun c a w h => hP c a _ _ w h) (hS.partD (.cons _ (.cons_cons _ (.cons_cons _ .slnil))) 0 rfl (.refl _)) ?_
         intro a hA
         refine any_skip hA 12 rfl rfl rfl rfl (by kernel_rfl) (by kernel_rfl) (by kernel_rfl) (fun c a w h => hP c a _ _ w h) (hS.partD (.cons _ (.cons_cons _ (.cons_cons _ .slnil))) 0 rfl (.refl _)) ?_
         intro a hA
         refine any_tk (v := .bool ((rb (P * u).num))) hA 13 rfl rfl rfl rfl hP (hS.partD (.cons _ (.cons_cons _ (.cons_cons _ .slnil))) 0 rfl (.refl _)) (fun w1 hS => d_pick rfl rfl rfl (by rw [hsg9, hb40]; rfl)) ?_
         intro a hA
         refine any_one (by kernel_rfl) (op_call hA 20 rfl rfl rfl rfl (enters_func  rfl rfl (fun w => by kernel_rfl)) (rtimes_as hn9 _ _ (hS.rd 0 rfl) (hS.rd 9 rfl) (by omega) (by omega)) ?_)
         rintro _ w153 ⟨ro149, rc150, rfl, ho151, hb152⟩
         replace hS := hS.call hb152
         replace hS := hS.addR ho151.rd
         refine ⟨_, rfl, (hS.partD (.cons _ (.cons_cons _ (.cons_cons _ .slnil))) 1 rfl (.refl _)), ?_⟩
         intro a hA
         refine any_one (by kernel_rfl) (op_call hA 27 rfl rfl rfl rfl (enters_func  rfl rfl (fun w => by kernel_rfl)) (rtimes_as hd9 _ _ (hS.rd 2 rfl) (hS.rd 9 rfl) (by omega) (by omega)) ?_)
         rintro _ w158 ⟨ro154, rc155, rfl, ho156, hb157⟩
         replace hS := hS.call hb157
         replace hS := hS.addR ho156.rd
         refine ⟨_, rfl, (hS.partD (.cons _ (.cons_cons _ (.cons_cons _ .slnil))) 2 rfl (.refl _)), ?_⟩
         intro a hA
         refine any_tk (v := .agg #[.bool ((rb (P * u).num)), .slice ro149 ((words (P * u).num.natAbs).length) rc150, .slice ro154 ((words (P * u).den).length) rc155]) hA 28 rfl rfl rfl rfl hP (hS.partD (.cons _ (.cons_cons _ (.cons_cons _ .slnil))) 2 rfl (.refl _)) (fun w1 hS => d_build rfl (fun w => by kernel_rfl)) ?_
         intro a hA
         refine any_tk (v := .pointer (some ⟨g26, 0, none⟩)) hA 29 rfl rfl rfl rfl hP (hS.partD (.cons _ (.cons_cons _ (.cons_cons _ .slnil))) 2 rfl (.refl _)) (fun w1 hS => d_field SmG_fld_26_0 rfl rfl) ?_
         intro a hA
         refine any_one (by kernel_rfl) (op_store (us := [.bool ((rb (P * u).num)), .slice ro149 ((words (P * u).num.natAbs).length) rc150, .slice ro154 ((words (P * u).den).length) rc155, .bool false, .slice p22_3 0 p22_c3, .slice p22_4 1 p22_c4]) hA hS 30 rfl rfl rfl (sets_store rfl rfl rfl (by kernel_rfl) hS 0 rfl rfl rfl) 0 rfl rfl rfl rfl ?_)
         intro w159 hS
         refine ⟨(hS.partD (.cons _ (.cons_cons _ (.cons_cons _ .slnil))) 2 rfl (.refl _)), ?_⟩
         refine any_end (by kernel_rfl) ?_
         refine hJ62 _ _ ⟨ro149, rc150, ro154, rc155, hA.keep _ ⟨rfl, rfl, rfl, rfl, rfl, rfl, rfl, rfl, rfl, rfl, rfl, rfl, rfl, rfl, rfl, rfl, rfl, rfl, rfl, rfl, rfl, rfl, rfl, rfl, rfl, rfl, rfl, rfl, rfl, rfl, rfl, rfl, rfl, trivial⟩, (St.pickRL hS ⟨⟨0, rfl⟩, ⟨⟨1, rfl⟩, ⟨⟨2, rfl⟩, ⟨⟨3, rfl⟩, ⟨⟨4, rfl⟩, ⟨⟨5, rfl⟩, ⟨⟨6, rfl⟩, ⟨⟨7, rfl⟩, ⟨⟨8, rfl⟩, ⟨⟨9, rfl⟩, ⟨⟨10, rfl⟩, ⟨⟨11, rfl⟩, trivial⟩⟩⟩⟩⟩⟩⟩⟩⟩⟩⟩⟩ [0, 1, 2] rfl (by decide)), ho156.nocap, ho156.caps, ho151.nocap, ho151.caps⟩
   · refine seq_call hA rfl rfl rfl (enters_func  rfl rfl (fun w => by kernel_rfl)) (rrealQ_any (show Nm _ (Q6.rat u v) a1 ac1 a2 ac2 a3 ac3 a4 ac4 from ⟨⟨(hS.rd 9 rfl), ha.s1.nil, ha.s1.cap⟩, ⟨(hS.rd 8 rfl), ha.s2.nil, ha.s2.cap⟩, ⟨(hS.rd 7 rfl), ha.s3.nil, ha.s3.cap⟩, ⟨(hS.rd 6 rfl), ha.s4.nil, ha.s4.cap⟩⟩) (lenQ_rat hu hv) k2) ?_
     rintro _ w161 ⟨rfl, hb160⟩
     replace hS := hS.call hb160
     refine ⟨_, rfl, ?_⟩
     intro a hA
     refine seq_end ?_
     refine hK39 _ _ ?_
     refine wp_cond_true (hA.ev rfl) ?_
     have hJ181 : ∀ a w1, (∃ (J173 : Option Addr) (J174 : Nat) (J175 : Option Addr) (J176 : Nat), Sl a 87 [(0, .agg #[.bool (rb u.num), .slice a1 ((words u.num.natAbs).length) ac1, .slice a2 ((words u.den).length) ac2, .bool (rb v.num), .slice a3 ((words v.num.natAbs).length) ac3, .slice a4 ((words v.den).length) ac4]), (1, .int .i64 (-((N : Nat) : Int))), (2, .pointer (some ⟨g2, 0, none⟩)), (4, .pointer (some ⟨g4, 0, none⟩)), (6, .int .i64 (((N : Nat) : Int))), (7, .pointer (some ⟨g26, 0, none⟩)), (8, .int .i64 (((i : Nat) : Int))), (9, .agg #[.bool (rb u.num), .slice a1 ((words u.num.natAbs).length) ac1, .slice a2 ((words u.den).length) ac2, .bool (rb v.num), .slice a3 ((words v.num.natAbs).length) ac3, .slice a4 ((words v.den).length) ac4]), (10, .bool true), (11, .bool false), (13, .int .i64 (-((N : Nat) : Int))), (14, .bool false), (15, .bool false), (16, .int .i64 (-((N : Nat) : Int))), (17, .bool false), (18, .bool false), (20, .int .i64 (-((N : Nat) : Int))), (21, .bool false), (23, .agg #[.bool (rb u.num), .slice a1 ((words u.num.natAbs).length) ac1, .slice a2 ((words u.den).length) ac2, .bool (rb v.num), .slice a3 ((words v.num.natAbs).length) ac3, .slice a4 ((words v.den).length) ac4]), (24, .bool false), (25, .bool false), (28, .bool false), (30, .int .i64 (-((N : Nat) : Int))), (31, .int .i64 (-((N : Nat) : Int))), (32, .bool true), (33, .int .i64 (-((N : Nat) : Int))), (34, .int .i64 (((N : Nat) : Int))), (35, .agg #[.bool ((rb (1 : Rat).num)), .slice p22_1 ((words (1 : Rat).num.natAbs).length) p22_c1, .slice p22_2 ((words (1 : Rat).den).length) p22_c2, .bool false, .slice p22_3 0 p22_c3, .slice p22_4 1 p22_c4]), (36, .int .i64 (((i : Nat) : Int))), (37, .int .i64 (((N : Nat) : Int))), (38, .bool true), (41, .agg #[.bool (rb u.num), .slice a1 ((words u.num.natAbs).length) ac1, .slice a2 ((words u.den).length) ac2, .bool (rb v.num), .slice a3 ((words v.num.natAbs).length) ac3, .slice a4 ((words v.den).length) ac4]), (42, .bool true)] ∧ St w w1 [(g26, [.bool ((rb (P * u).num)), .slice J173 ((words (P * u).num.natAbs).length) J174, .slice J175 ((words (P * u).den).length) J176, .bool false, .slice p22_3 0 p22_c3, .slice p22_4 1 p22_c4]), (g4, [.bool false, .slice none 0 0, .slice none 0 0, .bool false, .slice none 0 0, .slice none 0 0]), (g2, [.bool (rb u.num), .slice a1 ((words u.num.natAbs).length) ac1, .slice a2 ((words u.den).length) ac2, .bool (rb v.num), .slice a3 ((words v.num.natAbs).length) ac3, .slice a4 ((words v.den).length) ac4])] [(J175, words (P * u).den), (J173, words (P * u).num.natAbs), (po1, words P.num.natAbs), (po2, words P.den), (p22_4, [1]), (p22_3, []), (p22_2, words (1 : Rat).den), (p22_1, words (1 : Rat).num.natAbs), (a4, words v.den), (a3, words v.num.natAbs), (a2, words u.den), (a1, words u.num.natAbs)] [] ∧ (J175 = none → J176 = 0) ∧ (words (P * u).den : List Nat).length ≤ J176 ∧ (J173 = none → J174 = 0) ∧ (words (P * u).num.natAbs : List Nat).length ≤ J174) → K38 a w1 := by
       clear hA hS
       rintro a w182 ⟨J173, J174, J175, J176, hA, hS, hn177, hc178, hn179, hc180⟩
       refine hK38 _ _ ?_
       refine wp_seq_k (fun K183 hK183 => ?_)
       refine wp_region_lit ?_
       refine seq_do hA rfl rfl rfl (d_loadS hS SmG_isS_26 rfl 0 rfl (cs := [.bool ((rb (P * u).num)), .slice J173 ((words (P * u).num.natAbs).length) J174, .slice J175 ((words (P * u).den).length) J176, .bool false, .slice p22_3 0 p22_c3, .slice p22_4 1 p22_c4]) rfl rfl) ?_
       intro a hA
       rcases Bool.eq_false_or_eq_true (decide (¬ (fitR (P * u) ∧ fitR 0))) with hb184 | hb184
       · have hb184' := of_decide_eq_true hb184
         refine seq_call hA rfl rfl rfl (enters_func  rfl rfl (fun w => by kernel_rfl)) (rlarge0_any (show Nm _ (Q6.real (P * u)) J173 J174 J175 J176 p22_3 p22_c3 p22_4 p22_c4 from ⟨⟨(hS.rd 1 rfl), hn179, hc180⟩, ⟨(hS.rd 0 rfl), hn177, hc178⟩, ⟨(hS.rd 5 rfl), hn23.s3.nil, hn23.s3.cap⟩, ⟨(hS.rd 4 rfl), hn23.s4.nil, hn23.s4.cap⟩⟩) LPu hb184) ?_
         rintro _ w186 ⟨rfl, hb185⟩
         replace hS := hS.call hb185
         refine ⟨_, rfl, ?_⟩
         intro a hA
         refine seq_end ?_
         refine hK183 _ _ ?_
         refine wp_cond_true (hA.ev rfl) ?_
         refine wp_seq_k (fun K187 hK187 => ?_)
         refine wp_region_lit ?_
         refine seq_do (v := .agg #[.bool false, .slice none 0 0, .slice none 0 0, .bool false, .slice none 0 0, .slice none 0 0]) hA rfl rfl rfl (d_build rfl (fun w => by kernel_rfl)) ?_
         intro a hA
         refine seq_store (us := [.bool false, .slice none 0 0, .slice none 0 0, .bool false, .slice none 0 0, .slice none 0 0]) hA hS rfl rfl (sets_store rfl rfl rfl (by kernel_rfl) hS 1 rfl rfl rfl) 1 rfl rfl rfl rfl ?_
         intro w188 hS
         refine seq_do hA rfl rfl rfl (d_assign rfl) ?_
         intro a hA
         refine seq_end ?_
         refine hK187 _ _ ?_
         refine wp_ret ?_
         refine hret _ _ ?_
         refine ends (v := .tuple #[.agg #[.bool false, .slice none 0 0, .slice none 0 0, .bool false, .slice none 0 0, .slice none 0 0], .int .i64 4]) hA rfl (.cons (res_cell hS SmG_isS_26 rfl 1 rfl (cs := [.bool false, .slice none 0 0, .slice none 0 0, .bool false, .slice none 0 0, .slice none 0 0]) rfl rfl) (.cons (res_tmp rfl) .nil)) rfl ?_
         rw [exptQ_neg hu hv (by omega) h2 hz, if_neg (by rw [(pwB_stop (k := i + 1) (by omega) (by have h7 := of_decide_eq_true hb184; rw [hs9]; exact h7))]; decide)]
         exact ⟨none, 0, none, 0, none, 0, none, 0, rfl, ⟨(Sc.none _), (Sc.none _), (Sc.none _), (Sc.none _)⟩, hS.bel⟩
       · have hb184' := of_decide_eq_false hb184
         refine seq_call hA rfl rfl rfl (enters_func  rfl rfl (fun w => by kernel_rfl)) (rlarge0_any (show Nm _ (Q6.real (P * u)) J173 J174 J175 J176 p22_3 p22_c3 p22_4 p22_c4 from ⟨⟨(hS.rd 1 rfl), hn179, hc180⟩, ⟨(hS.rd 0 rfl), hn177, hc178⟩, ⟨(hS.rd 5 rfl), hn23.s3.nil, hn23.s3.cap⟩, ⟨(hS.rd 4 rfl), hn23.s4.nil, hn23.s4.cap⟩⟩) LPu hb184) ?_
         rintro _ w190 ⟨rfl, hb189⟩
         replace hS := hS.call hb189
         refine ⟨_, rfl, ?_⟩
         intro a hA
         refine seq_end ?_
         refine hK183 _ _ ?_
         refine wp_cond_false (hA.ev rfl) ?_
         refine wp_skip ?_
         refine hK37 _ _ ?_
         refine wp_region_lit ?_
         refine seq_do hA rfl rfl rfl (d_move rfl) ?_
         intro a hA
         refine seq_do (v := .int .i64 (((i + 1 : Nat) : Int))) hA rfl rfl rfl (d_bin rfl rfl (fun w => (bin_add (i64In (by omega) (by omega)) w).trans (by rw [show (((i : Nat) : Int) + 1 : Int) = ((i + 1 : Nat) : Int) from by omega]))) ?_
         intro a hA
         refine seq_do hA rfl rfl rfl (d_assign rfl) ?_
         intro a hA
         refine seq_end ?_
         refine hK32 _ _ _ (by omega) ⟨i + 1, (P * u), J173, J174, J175, J176, rfl, ⟨by omega, hs9, pwB_step hB9 (by rw [hs9]; exact (Decidable.not_not.1 (of_decide_eq_false hb184)).1) (by rw [hs9]; exact fit_zero), fit_lenR (Decidable.not_not.1 (of_decide_eq_false hb184)).1, hPu, (by rw [hPu]; exact pow_num_ne (by have h7 := of_decide_eq_true hsu; omega) _), ⟨hn179, hc180⟩, ⟨hn177, hc178⟩⟩, hA.keep _ ⟨rfl, rfl, rfl, rfl, rfl, rfl, rfl, rfl, rfl, rfl, rfl, rfl, rfl, rfl, rfl, rfl, rfl, rfl, rfl, rfl, rfl, rfl, rfl, rfl, rfl, rfl, rfl, rfl, trivial⟩, ((hS.pickR [(J173, words (P * u).num.natAbs), (J175, words (P * u).den), (p22_4, [1]), (p22_3, []), (p22_2, words (1 : Rat).den), (p22_1, words (1 : Rat).num.natAbs), (a4, words v.den), (a3, words v.num.natAbs), (a2, words u.den), (a1, words u.num.natAbs)] ⟨⟨1, rfl⟩, ⟨⟨0, rfl⟩, ⟨⟨4, rfl⟩, ⟨⟨5, rfl⟩, ⟨⟨6, rfl⟩, ⟨⟨7, rfl⟩, ⟨⟨8, rfl⟩, ⟨⟨9, rfl⟩, ⟨⟨10, rfl⟩, ⟨⟨11, rfl⟩, trivial⟩⟩⟩⟩⟩⟩⟩⟩⟩⟩).subL _ (.refl _))⟩
     refine wp_draw (S := fun w1 => St w w1 [(g4, [.bool false, .slice none 0 0, .slice none 0 0, .bool false, .slice none 0 0, .slice none 0 0]), (g2, [.bool (rb u.num), .slice a1 ((words u.num.natAbs).length) ac1, .slice a2 ((words u.den).length) ac2, .bool (rb v.num), .slice a3 ((words v.num.natAbs).length) ac3, .slice a4 ((words v.den).length) ac4])] [(po1, words P.num.natAbs), (po2, words P.den), (p22_4, [1]), (p22_3, []), (p22_2, words (1 : Rat).den), (p22_1, words (1 : Rat).num.natAbs), (a4, words v.den), (a3, words v.num.natAbs), (a2, words u.den), (a1, words u.num.natAbs)] []) (by kernel_rfl) ?_
     replace hS := hS.drew
     refine any_tk (v := .pointer (some ⟨g26, 0, none⟩)) hA 0 rfl rfl rfl rfl hP (hS.partD (.cons _ (.cons_cons _ (.cons_cons _ .slnil))) 0 rfl (.refl _)) (fun w1 hS => d_field SmG_fld_26_0 rfl rfl) ?_
     intro a hA
     refine any_tk (v := .pointer (some ⟨g26, 0, none⟩)) hA 1 rfl rfl rfl rfl hP (hS.partD (.cons _ (.cons_cons _ (.cons_cons _ .slnil))) 0 rfl (.refl _)) (fun w1 hS => d_field SmG_fld_24_0 rfl rfl) ?_
     intro a hA
     refine any_tk (v := .pointer (some ⟨g2, 0, none⟩)) hA 3 rfl rfl rfl rfl hP (hS.partD (.cons _ (.cons_cons _ (.cons_cons _ .slnil))) 0 rfl (.refl _)) (fun w1 hS => d_field SmG_fld_26_0 rfl rfl) ?_
     intro a hA
     refine any_tk (v := .pointer (some ⟨g2, 0, none⟩)) hA 4 rfl rfl rfl rfl hP (hS.partD (.cons _ (.cons_cons _ (.cons_cons _ .slnil))) 0 rfl (.refl _)) (fun w1 hS => d_field SmG_fld_24_0 rfl rfl) ?_
     intro a hA
     refine any_tk hA 5 rfl rfl rfl rfl hP (hS.partD (.cons _ (.cons_cons _ (.cons_cons _ .slnil))) 0 rfl (.refl _)) (fun w1 hS => d_load1 hS SmG_is1_4 rfl 1 rfl rfl) ?_
     intro a hA
     refine any_tk (v := .pointer (some ⟨g26, 0, none⟩)) hA 14 rfl rfl rfl rfl hP (hS.partD (.cons _ (.cons_cons _ (.cons_cons _ .slnil))) 0 rfl (.refl _)) (fun w1 hS => d_field SmG_fld_26_0 rfl rfl) ?_
     intro a hA
     refine any_tk (v := .pointer (some ⟨g26, 1, none⟩)) hA 15 rfl rfl rfl rfl hP (hS.partD (.cons _ (.cons_cons _ (.cons_cons _ .slnil))) 0 rfl (.refl _)) (fun w1 hS => d_field SmG_fld_24_1 rfl rfl) ?_
     intro a hA
     refine any_tk (v := .pointer (some ⟨g2, 0, none⟩)) hA 17 rfl rfl rfl rfl hP (hS.partD (.cons _ (.cons_cons _ (.cons_cons _ .slnil))) 0 rfl (.refl _)) (fun w1 hS => d_field SmG_fld_26_0 rfl rfl) ?_
     intro a hA
     refine any_tk (v := .pointer (some ⟨g2, 1, none⟩)) hA 18 rfl rfl rfl rfl hP (hS.partD (.cons _ (.cons_cons _ (.cons_cons _ .slnil))) 0 rfl (.refl _)) (fun w1 hS => d_field SmG_fld_24_1 rfl rfl) ?_
     intro a hA
     refine any_tk hA 19 rfl rfl rfl rfl hP (hS.partD (.cons _ (.cons_cons _ (.cons_cons _ .slnil))) 0 rfl (.refl _)) (fun w1 hS => d_load1 hS SmG_is1_22 rfl 1 rfl rfl) ?_
     intro a hA
     refine any_tk (v := .pointer (some ⟨g26, 0, none⟩)) hA 21 rfl rfl rfl rfl hP (hS.partD (.cons _ (.cons_cons _ (.cons_cons _ .slnil))) 0 rfl (.refl _)) (fun w1 hS => d_field SmG_fld_26_0 rfl rfl) ?_
     intro a hA
     refine any_tk (v := .pointer (some ⟨g26, 2, none⟩)) hA 22 rfl rfl rfl rfl hP (hS.partD (.cons _ (.cons_cons _ (.cons_cons _ .slnil))) 0 rfl (.refl _)) (fun w1 hS => d_field SmG_fld_24_2 rfl rfl) ?_
     intro a hA
     refine any_tk (v := .pointer (some ⟨g2, 0, none⟩)) hA 24 rfl rfl rfl rfl hP (hS.partD (.cons _ (.cons_cons _ (.cons_cons _ .slnil))) 0 rfl (.refl _)) (fun w1 hS => d_field SmG_fld_26_0 rfl rfl) ?_
     intro a hA
     refine any_tk (v := .pointer (some ⟨g2, 2, none⟩)) hA 25 rfl rfl rfl rfl hP (hS.partD (.cons _ (.cons_cons _ (.cons_cons _ .slnil))) 0 rfl (.refl _)) (fun w1 hS => d_field SmG_fld_24_2 rfl rfl) ?_
     intro a hA
     refine any_tk hA 26 rfl rfl rfl rfl hP (hS.partD (.cons _ (.cons_cons _ (.cons_cons _ .slnil))) 0 rfl (.refl _)) (fun w1 hS => d_load1 hS SmG_is1_22 rfl 1 rfl rfl) ?_
     intro a hA
     refine any_many (rs := [2, 16, 23]) (by kernel_rfl) (by simp) ⟨?_, ?_, ?_, trivial⟩
     · refine op_do hA 2 rfl rfl rfl rfl (d_load1 hS SmG_is1_4 rfl 0 rfl rfl) (hS.partD (.cons _ (.cons_cons _ (.cons_cons _ .slnil))) 0 rfl (.refl _)) ?_
       intro a hA
       refine any_tk (v := .bool true) hA 6 rfl rfl rfl rfl hP (hS.partD (.cons _ (.cons_cons _ (.cons_cons _ .slnil))) 0 rfl (.refl _)) (fun w1 hS => d_bin rfl rfl (fun w => ((bin_neqB Tryz.underlying4) w).trans (by rw [show (!((rb P.num) == rb u.num)) = true from (by rw [hb40, hsu]; rfl)]))) ?_
       intro a hA
       refine any_tk hA 7 rfl rfl rfl rfl hP (hS.partD (.cons _ (.cons_cons _ (.cons_cons _ .slnil))) 0 rfl (.refl _)) (fun w1 hS => d_move rfl) ?_
       intro a hA
       refine any_tk (v := .pointer (some ⟨g2, 0, none⟩)) hA 8 rfl rfl rfl rfl hP (hS.partD (.cons _ (.cons_cons _ (.cons_cons _ .slnil))) 0 rfl (.refl _)) (fun w1 hS => d_field SmG_fld_26_0 rfl rfl) ?_
       intro a hA
       refine any_tk (v := .pointer (some ⟨g2, 1, none⟩)) hA 9 rfl rfl rfl rfl hP (hS.partD (.cons _ (.cons_cons _ (.cons_cons _ .slnil))) 0 rfl (.refl _)) (fun w1 hS => d_field SmG_fld_24_1 rfl rfl) ?_
       intro a hA
       refine any_tk hA 10 rfl rfl rfl rfl hP (hS.partD (.cons _ (.cons_cons _ (.cons_cons _ .slnil))) 0 rfl (.refl _)) (fun w1 hS => d_load1 hS SmG_is1_22 rfl 1 rfl rfl) ?_
       intro a hA
       refine any_tk (v := .int .i64 ((((words u.num.natAbs).length : Nat) : Int))) hA 11 rfl rfl rfl rfl hP (hS.partD (.cons _ (.cons_cons _ (.cons_cons _ .slnil))) 0 rfl (.refl _)) (fun w1 hS => d_len Tryz.underlying22 rfl) ?_
       intro a hA
       refine any_tk (v := .bool true) hA 12 rfl rfl rfl rfl hP (hS.partD (.cons _ (.cons_cons _ (.cons_cons _ .slnil))) 0 rfl (.refl _)) (fun w1 hS => d_bin rfl rfl (fun w => (bin_gtr w).trans (by rw [show (decide (0 < (((words u.num.natAbs).length : Nat) : Int))) = true from (decide_eq_true (by omega))]))) ?_
       intro a hA
       refine any_tk (v := .bool ((rb (P * u).num))) hA 13 rfl rfl rfl rfl hP (hS.partD (.cons _ (.cons_cons _ (.cons_cons _ .slnil))) 0 rfl (.refl _)) (fun w1 hS => d_pick rfl rfl rfl (by rw [hsg9, hb40]; rfl)) ?_
       intro a hA
       refine any_many (rs := [16, 23]) (by kernel_rfl) (by simp) ⟨?_, ?_, trivial⟩
       · refine op_do hA 16 rfl rfl rfl rfl (d_load1 hS SmG_is1_22 rfl 0 rfl rfl) (hS.partD (.cons _ (.cons_cons _ (.cons_cons _ .slnil))) 0 rfl (.refl _)) ?_
         intro a hA
         refine any_many (rs := [20, 23]) (by kernel_rfl) (by simp) ⟨?_, ?_, trivial⟩
         · refine op_call hA 20 rfl rfl rfl rfl (enters_func  rfl rfl (fun w => by kernel_rfl)) (rtimes_as hn9 _ _ (hS.rd 0 rfl) (hS.rd 9 rfl) (by omega) (by omega)) ?_
           rintro _ w195 ⟨ro191, rc192, rfl, ho193, hb194⟩
           replace hS := hS.call hb194
           replace hS := hS.addR ho193.rd
           refine ⟨_, rfl, (hS.partD (.cons _ (.cons_cons _ (.cons_cons _ .slnil))) 1 rfl (.refl _)), ?_⟩
           intro a hA
           refine any_one (by kernel_rfl) (op_do hA 23 rfl rfl rfl rfl (d_load1 hS SmG_is1_22 rfl 0 rfl rfl) (hS.partD (.cons _ (.cons_cons _ (.cons_cons _ .slnil))) 1 rfl (.refl _)) ?_)
           intro a hA
           refine any_one (by kernel_rfl) (op_call hA 27 rfl rfl rfl rfl (enters_func  rfl rfl (fun w => by kernel_rfl)) (rtimes_as hd9 _ _ (hS.rd 2 rfl) (hS.rd 9 rfl) (by omega) (by omega)) ?_)
           rintro _ w200 ⟨ro196, rc197, rfl, ho198, hb199⟩
           replace hS := hS.call hb199
           replace hS := hS.addR ho198.rd
           refine ⟨_, rfl, (hS.partD (.cons _ (.cons_cons _ (.cons_cons _ .slnil))) 2 rfl (.refl _)), ?_⟩
           intro a hA
           refine any_tk (v := .agg #[.bool ((rb (P * u).num)), .slice ro191 ((words (P * u).num.natAbs).length) rc192, .slice ro196 ((words (P * u).den).length) rc197]) hA 28 rfl rfl rfl rfl hP (hS.partD (.cons _ (.cons_cons _ (.cons_cons _ .slnil))) 2 rfl (.refl _)) (fun w1 hS => d_build rfl (fun w => by kernel_rfl)) ?_
           intro a hA
           refine any_tk (v := .pointer (some ⟨g26, 0, none⟩)) hA 29 rfl rfl rfl rfl hP (hS.partD (.cons _ (.cons_cons _ (.cons_cons _ .slnil))) 2 rfl (.refl _)) (fun w1 hS => d_field SmG_fld_26_0 rfl rfl) ?_
           intro a hA
           refine any_one (by kernel_rfl) (op_store (us := [.bool ((rb (P * u).num)), .slice ro191 ((words (P * u).num.natAbs).length) rc192, .slice ro196 ((words (P * u).den).length) rc197, .bool false, .slice p22_3 0 p22_c3, .slice p22_4 1 p22_c4]) hA hS 30 rfl rfl rfl (sets_store rfl rfl rfl (by kernel_rfl) hS 0 rfl rfl rfl) 0 rfl rfl rfl rfl ?_)
           intro w201 hS
           refine ⟨(hS.partD (.cons _ (.cons_cons _ (.cons_cons _ .slnil))) 2 rfl (.refl _)), ?_⟩
           refine any_end (by kernel_rfl) ?_
           refine hJ181 _ _ ⟨ro191, rc192, ro196, rc197, hA.keep _ ⟨rfl, rfl, rfl, rfl, rfl, rfl, rfl, rfl, rfl, rfl, rfl, rfl, rfl, rfl, rfl, rfl, rfl, rfl, rfl, rfl, rfl, rfl, rfl, rfl, rfl, rfl, rfl, rfl, rfl, rfl, rfl, rfl, rfl, trivial⟩, (St.pickRL hS ⟨⟨0, rfl⟩, ⟨⟨1, rfl⟩, ⟨⟨2, rfl⟩, ⟨⟨3, rfl⟩, ⟨⟨4, rfl⟩, ⟨⟨5, rfl⟩, ⟨⟨6, rfl⟩, ⟨⟨7, rfl⟩, ⟨⟨8, rfl⟩, ⟨⟨9, rfl⟩, ⟨⟨10, rfl⟩, ⟨⟨11, rfl⟩, trivial⟩⟩⟩⟩⟩⟩⟩⟩⟩⟩⟩⟩ [0, 1, 2] rfl (by decide)), ho198.nocap, ho198.caps, ho193.nocap, ho193.caps⟩
         · refine op_do hA 23 rfl rfl rfl rfl (d_load1 hS SmG_is1_22 rfl 0 rfl rfl) (hS.partD (.cons _ (.cons_cons _ (.cons_cons _ .slnil))) 0 rfl (.refl _)) ?_
           intro a hA
           refine any_one (by kernel_rfl) (op_call hA 20 rfl rfl rfl rfl (enters_func  rfl rfl (fun w => by kernel_rfl)) (rtimes_as hn9 _ _ (hS.rd 0 rfl) (hS.rd 9 rfl) (by omega) (by omega)) ?_)
           rintro _ w206 ⟨ro202, rc203, rfl, ho204, hb205⟩
           replace hS := hS.call hb205
           replace hS := hS.addR ho204.rd
           refine ⟨_, rfl, (hS.partD (.cons _ (.cons_cons _ (.cons_cons _ .slnil))) 1 rfl (.refl _)), ?_⟩
           intro a hA
           refine any_one (by kernel_rfl) (op_call hA 27 rfl rfl rfl rfl (enters_func  rfl rfl (fun w => by kernel_rfl)) (rtimes_as hd9 _ _ (hS.rd 2 rfl) (hS.rd 9 rfl) (by omega) (by omega)) ?_)
           rintro _ w211 ⟨ro207, rc208, rfl, ho209, hb210⟩
           replace hS := hS.call hb210
           replace hS := hS.addR ho209.rd
           refine ⟨_, rfl, (hS.partD (.cons _ (.cons_cons _ (.cons_cons _ .slnil))) 2 rfl (.refl _)), ?_⟩
           intro a hA
           refine any_tk (v := .agg #[.bool ((rb (P * u).num)), .slice ro202 ((words (P * u).num.natAbs).length) rc203, .slice ro207 ((words (P * u).den).length) rc208]) hA 28 rfl rfl rfl rfl hP (hS.partD (.cons _ (.cons_cons _ (.cons_cons _ .slnil))) 2 rfl (.refl _)) (fun w1 hS => d_build rfl (fun w => by kernel_rfl)) ?_
           intro a hA
           refine any_tk (v := .pointer (some ⟨g26, 0, none⟩)) hA 29 rfl rfl rfl rfl hP (hS.partD (.cons _ (.cons_cons _ (.cons_cons _ .slnil))) 2 rfl (.refl _)) (fun w1 hS => d_field SmG_fld_26_0 rfl rfl) ?_
           intro a hA
           refine any_one (by kernel_rfl) (op_store (us := [.bool ((rb (P * u).num)), .slice ro202 ((words (P * u).num.natAbs).length) rc203, .slice ro207 ((words (P * u).den).length) rc208, .bool false, .slice p22_3 0 p22_c3, .slice p22_4 1 p22_c4]) hA hS 30 rfl rfl rfl (sets_store rfl rfl rfl (by kernel_rfl) hS 0 rfl rfl rfl) 0 rfl rfl rfl rfl ?_)
           intro w212 hS
           refine ⟨(hS.partD (.cons _ (.cons_cons _ (.cons_cons _ .slnil))) 2 rfl (.refl _)), ?_⟩
           refine any_end (by kernel_rfl) ?_
           refine hJ181 _ _ ⟨ro202, rc203, ro207, rc208, hA.keep _ ⟨rfl, rfl, rfl, rfl, rfl, rfl, rfl, rfl, rfl, rfl, rfl, rfl, rfl, rfl, rfl, rfl, rfl, rfl, rfl, rfl, rfl, rfl, rfl, rfl, rfl, rfl, rfl, rfl, rfl, rfl, rfl, rfl, rfl, trivial⟩, (St.pickRL hS ⟨⟨0, rfl⟩, ⟨⟨1, rfl⟩, ⟨⟨2, rfl⟩, ⟨⟨3, rfl⟩, ⟨⟨4, rfl⟩, ⟨⟨5, rfl⟩, ⟨⟨6, rfl⟩, ⟨⟨7, rfl⟩, ⟨⟨8, rfl⟩, ⟨⟨9, rfl⟩, ⟨⟨10, rfl⟩, ⟨⟨11, rfl⟩, trivial⟩⟩⟩⟩⟩⟩⟩⟩⟩⟩⟩⟩ [0, 1, 2] rfl (by decide)), ho209.nocap, ho209.caps, ho204.nocap, ho204.caps⟩
       · refine op_do hA 23 rfl rfl rfl rfl (d_load1 hS SmG_is1_22 rfl 0 rfl rfl) (hS.partD (.cons _ (.cons_cons _ (.cons_cons _ .slnil))) 0 rfl (.refl _)) ?_
         intro a hA
         refine any_one (by kernel_rfl) (op_do hA 16 rfl rfl rfl rfl (d_load1 hS SmG_is1_22 rfl 0 rfl rfl) (hS.partD (.cons _ (.cons_cons _ (.cons_cons _ .slnil))) 0 rfl (.refl _)) ?_)
         intro a hA
         refine any_one (by kernel_rfl) (op_call hA 20 rfl rfl rfl rfl (enters_func  rfl rfl (fun w => by kernel_rfl)) (rtimes_as hn9 _ _ (hS.rd 0 rfl) (hS.rd 9 rfl) (by omega) (by omega)) ?_)
         rintro _ w217 ⟨ro213, rc214, rfl, ho215, hb216⟩
         replace hS := hS.call hb216
         replace hS := hS.addR ho215.rd
         refine ⟨_, rfl, (hS.partD (.cons _ (.cons_cons _ (.cons_cons _ .slnil))) 1 rfl (.refl _)), ?_⟩
         intro a hA
         refine any_one (by kernel_rfl) (op_call hA 27 rfl rfl rfl rfl (enters_func  rfl rfl (fun w => by kernel_rfl)) (rtimes_as hd9 _ _ (hS.rd 2 rfl) (hS.rd 9 rfl) (by omega) (by omega)) ?_)
         rintro _ w222 ⟨ro218, rc219, rfl, ho220, hb221⟩
         replace hS := hS.call hb221
         replace hS := hS.addR ho220.rd
         refine ⟨_, rfl, (hS.partD (.cons _ (.cons_cons _ (.cons_cons _ .slnil))) 2 rfl (.refl _)), ?_⟩
         intro a hA
         refine any_tk (v := .agg #[.bool ((rb (P * u).num)), .slice ro213 ((words (P * u).num.natAbs).length) rc214, .slice ro218 ((words (P * u).den).length) rc219]) hA 28 rfl rfl rfl rfl hP (hS.partD (.cons _ (.cons_cons _ (.cons_cons _ .slnil))) 2 rfl (.refl _)) (fun w1 hS => d_build rfl (fun w => by kernel_rfl)) ?_
         intro a hA
         refine any_tk (v := .pointer (some ⟨g26, 0, none⟩)) hA 29 rfl rfl rfl rfl hP (hS.partD (.cons _ (.cons_cons _ (.cons_cons _ .slnil))) 2 rfl (.refl _)) (fun w1 hS => d_field SmG_fld_26_0 rfl rfl) ?_
         intro a hA
         refine any_one (by kernel_rfl) (op_store (us := [.bool ((rb (P * u).num)), .slice ro213 ((words (P * u).num.natAbs).length) rc214, .slice ro218 ((words (P * u).den).length) rc219, .bool false, .slice p22_3 0 p22_c3, .slice p22_4 1 p22_c4]) hA hS 30 rfl rfl rfl (sets_store rfl rfl rfl (by kernel_rfl) hS 0 rfl rfl rfl) 0 rfl rfl rfl rfl ?_)
         intro w223 hS
         refine ⟨(hS.partD (.cons _ (.cons_cons _ (.cons_cons _ .slnil))) 2 rfl (.refl _)), ?_⟩
         refine any_end (by kernel_rfl) ?_
         refine hJ181 _ _ ⟨ro213, rc214, ro218, rc219, hA.keep _ ⟨rfl, rfl, rfl, rfl, rfl, rfl, rfl, rfl, rfl, rfl, rfl, rfl, rfl, rfl, rfl, rfl, rfl, rfl, rfl, rfl, rfl, rfl, rfl, rfl, rfl, rfl, rfl, rfl, rfl, rfl, rfl, rfl, rfl, trivial⟩, (St.pickRL hS ⟨⟨0, rfl⟩, ⟨⟨1, rfl⟩, ⟨⟨2, rfl⟩, ⟨⟨3, rfl⟩, ⟨⟨4, rfl⟩, ⟨⟨5, rfl⟩, ⟨⟨6, rfl⟩, ⟨⟨7, rfl⟩, ⟨⟨8, rfl⟩, ⟨⟨9, rfl⟩, ⟨⟨10, rfl⟩, ⟨⟨11, rfl⟩, trivial⟩⟩⟩⟩⟩⟩⟩⟩⟩⟩⟩⟩ [0, 1, 2] rfl (by decide)), ho220.nocap, ho220.caps, ho215.nocap, ho215.caps⟩
     · refine op_do hA 16 rfl rfl rfl rfl (d_load1 hS SmG_is1_22 rfl 0 rfl rfl) (hS.partD (.cons _ (.cons_cons _ (.cons_cons _ .slnil))) 0 rfl (.refl _)) ?_
       intro a hA
       refine any_many (rs := [2, 23]) (by kernel_rfl) (by simp) ⟨?_, ?_, trivial⟩
       · refine op_do hA 2 rfl rfl rfl rfl (d_load1 hS SmG_is1_4 rfl 0 rfl rfl) (hS.partD (.cons _ (.cons_cons _ (.cons_cons _ .slnil))) 0 rfl (.refl _)) ?_
         intro a hA
         refine any_tk (v := .bool true) hA 6 rfl rfl rfl rfl hP (hS.partD (.cons _ (.cons_cons _ (.cons_cons _ .slnil))) 0 rfl (.refl _)) (fun w1 hS => d_bin rfl rfl (fun w => ((bin_neqB Tryz.underlying4) w).trans (by rw [show (!((rb P.num) == rb u.num)) = true from (by rw [hb40, hsu]; rfl)]))) ?_
         intro a hA
         refine any_tk hA 7 rfl rfl rfl rfl hP (hS.partD (.cons _ (.cons_cons _ (.cons_cons _ .slnil))) 0 rfl (.refl _)) (fun w1 hS => d_move rfl) ?_
         intro a hA
         refine any_tk (v := .pointer (some ⟨g2, 0, none⟩)) hA 8 rfl rfl rfl rfl hP (hS.partD (.cons _ (.cons_cons _ (.cons_cons _ .slnil))) 0 rfl (.refl _)) (fun w1 hS => d_field SmG_fld_26_0 rfl rfl) ?_
         intro a hA
         refine any_tk (v := .pointer (some ⟨g2, 1, none⟩)) hA 9 rfl rfl rfl rfl hP (hS.partD (.cons _ (.cons_cons _ (.cons_cons _ .slnil))) 0 rfl (.refl _)) (fun w1 hS => d_field SmG_fld_24_1 rfl rfl) ?_
         intro a hA
         refine any_tk hA 10 rfl rfl rfl rfl hP (hS.partD (.cons _ (.cons_cons _ (.cons_cons _ .slnil))) 0 rfl (.refl _)) (fun w1 hS => d_load1 hS SmG_is1_22 rfl 1 rfl rfl) ?_
         intro a hA
         refine any_tk (v := .int .i64 ((((words u.num.natAbs).length : Nat) : Int))) hA 11 rfl rfl rfl rfl hP (hS.partD (.cons _ (.cons_cons _ (.cons_cons _ .slnil))) 0 rfl (.refl _)) (fun w1 hS => d_len Tryz.underlying22 rfl) ?_
         intro a hA
         refine any_tk (v := .bool true) hA 12 rfl rfl rfl rfl hP (hS.partD (.cons _ (.cons_cons _ (.cons_cons _ .slnil))) 0 rfl (.refl _)) (fun w1 hS => d_bin rfl rfl (fun w => (bin_gtr w).trans (by rw [show (decide (0 < (((words u.num.natAbs).length : Nat) : Int))) = true from (decide_eq_true (by omega))]))) ?_
         intro a hA
         refine any_tk (v := .bool ((rb (P * u).num))) hA 13 rfl rfl rfl rfl hP (hS.partD (.cons _ (.cons_cons _ (.cons_cons _ .slnil))) 0 rfl (.refl _)) (fun w1 hS => d_pick rfl rfl rfl (by rw [hsg9, hb40]; rfl)) ?_
         intro a hA
         refine any_many (rs := [20, 23]) (by kernel_rfl) (by simp) ⟨?_, ?_, trivial⟩
         · refine op_call hA 20 rfl rfl rfl rfl (enters_func  rfl rfl (fun w => by kernel_rfl)) (rtimes_as hn9 _ _ (hS.rd 0 rfl) (hS.rd 9 rfl) (by omega) (by omega)) ?_
           rintro _ w228 ⟨ro224, rc225, rfl, ho226, hb227⟩
           replace hS := hS.call hb227
           replace hS := hS.addR ho226.rd
           refine ⟨_, rfl, (hS.partD (.cons _ (.cons_cons _ (.cons_cons _ .slnil))) 1 rfl (.refl _)), ?_⟩
           intro a hA
           refine any_one (by kernel_rfl) (op_do hA 23 rfl rfl rfl rfl (d_load1 hS SmG_is1_22 rfl 0 rfl rfl) (hS.partD (.cons _ (.cons_cons _ (.cons_cons _ .slnil))) 1 rfl (.refl _)) ?_)
           intro a hA
           refine any_one (by kernel_rfl) (op_call hA 27 rfl rfl rfl rfl (enters_func  rfl rfl (fun w => by kernel_rfl)) (rtimes_as hd9 _ _ (hS.rd 2 rfl) (hS.rd 9 rfl) (by omega) (by omega)) ?_)
           rintro _ w233 ⟨ro229, rc230, rfl, ho231, hb232⟩
           replace hS := hS.call hb232
           replace hS := hS.addR ho231.rd
           refine ⟨_, rfl, (hS.partD (.cons _ (.cons_cons _ (.cons_cons _ .slnil))) 2 rfl (.refl _)), ?_⟩
           intro a hA
           refine any_tk (v := .agg #[.bool ((rb (P * u).num)), .slice ro224 ((words (P * u).num.natAbs).length) rc225, .slice ro229 ((words (P * u).den).length) rc230]) hA 28 rfl rfl rfl rfl hP (hS.partD (.cons _ (.cons_cons _ (.cons_cons _ .slnil))) 2 rfl (.refl _)) (fun w1 hS => d_build rfl (fun w => by kernel_rfl)) ?_
           intro a hA
           refine any_tk (v := .pointer (some ⟨g26, 0, none⟩)) hA 29 rfl rfl rfl rfl hP (hS.partD (.cons _ (.cons_cons _ (.cons_cons _ .slnil))) 2 rfl (.refl _)) (fun w1 hS => d_field SmG_fld_26_0 rfl rfl) ?_
           intro a hA
           refine any_one (by kernel_rfl) (op_store (us := [.bool ((rb (P * u).num)), .slice ro224 ((words (P * u).num.natAbs).length) rc225, .slice ro229 ((words (P * u).den).length) rc230, .bool false, .slice p22_3 0 p22_c3, .slice p22_4 1 p22_c4]) hA hS 30 rfl rfl rfl (sets_store rfl rfl rfl (by kernel_rfl) hS 0 rfl rfl rfl) 0 rfl rfl rfl rfl ?_)
           intro w234 hS
           refine ⟨(hS.partD (.cons _ (.cons_cons _ (.cons_cons _ .slnil))) 2 rfl (.refl _)), ?_⟩
           refine any_end (by kernel_rfl) ?_
           refine hJ181 _ _ ⟨ro224, rc225, ro229, rc230, hA.keep _ ⟨rfl, rfl, rfl, rfl, rfl, rfl, rfl, rfl, rfl, rfl, rfl, rfl, rfl, rfl, rfl, rfl, rfl, rfl, rfl, rfl, rfl, rfl, rfl, rfl, rfl, rfl, rfl, rfl, rfl, rfl, rfl, rfl, rfl, trivial⟩, (St.pickRL hS ⟨⟨0, rfl⟩, ⟨⟨1, rfl⟩, ⟨⟨2, rfl⟩, ⟨⟨3, rfl⟩, ⟨⟨4, rfl⟩, ⟨⟨5, rfl⟩, ⟨⟨6, rfl⟩, ⟨⟨7, rfl⟩, ⟨⟨8, rfl⟩, ⟨⟨9, rfl⟩, ⟨⟨10, rfl⟩, ⟨⟨11, rfl⟩, trivial⟩⟩⟩⟩⟩⟩⟩⟩⟩⟩⟩⟩ [0, 1, 2] rfl (by decide)), ho231.nocap, ho231.caps, ho226.nocap, ho226.caps⟩
         · refine op_do hA 23 rfl rfl rfl rfl (d_load1 hS SmG_is1_22 rfl 0 rfl rfl) (hS.partD (.cons _ (.cons_cons _ (.cons_cons _ .slnil))) 0 rfl (.refl _)) ?_
           intro a hA
           refine any_one (by kernel_rfl) (op_call hA 20 rfl rfl rfl rfl (enters_func  rfl rfl (fun w => by kernel_rfl)) (rtimes_as hn9 _ _ (hS.rd 0 rfl) (hS.rd 9 rfl) (by omega) (by omega)) ?_)
           rintro _ w239 ⟨ro235, rc236, rfl, ho237, hb238⟩
           replace hS := hS.call hb238
           replace hS := hS.addR ho237.rd
           refine ⟨_, rfl, (hS.partD (.cons _ (.cons_cons _ (.cons_cons _ .slnil))) 1 rfl (.refl _)), ?_⟩
           intro a hA
           refine any_one (by kernel_rfl) (op_call hA 27 rfl rfl rfl rfl (enters_func  rfl rfl (fun w => by kernel_rfl)) (rtimes_as hd9 _ _ (hS.rd 2 rfl) (hS.rd 9 rfl) (by omega) (by omega)) ?_)
           rintro _ w244 ⟨ro240, rc241, rfl, ho242, hb243⟩
           replace hS := hS.call hb243
           replace hS := hS.addR ho242.rd
           refine ⟨_, rfl, (hS.partD (.cons _ (.cons_cons _ (.cons_cons _ .slnil))) 2 rfl (.refl _)), ?_⟩
           intro a hA
           refine any_tk (v := .agg #[.bool ((rb (P * u).num)), .slice ro235 ((words (P * u).num.natAbs).length) rc236, .slice ro240 ((words (P * u).den).length) rc241]) hA 28 rfl rfl rfl rfl hP (hS.partD (.cons _ (.cons_cons _ (.cons_cons _ .slnil))) 2 rfl (.refl _)) (fun w1 hS => d_build rfl (fun w => by kernel_rfl)) ?_
           intro a hA
           refine any_tk (v := .pointer (some ⟨g26, 0, none⟩)) hA 29 rfl rfl rfl rfl hP (hS.partD (.cons _ (.cons_cons _ (.cons_cons _ .slnil))) 2 rfl (.refl _)) (fun w1 hS => d_field SmG_fld_26_0 rfl rfl) ?_
           intro a hA
           refine any_one (by kernel_rfl) (op_store (us := [.bool ((rb (P * u).num)), .slice ro235 ((words (P * u).num.natAbs).length) rc236, .slice ro240 ((words (P * u).den).length) rc241, .bool false, .slice p22_3 0 p22_c3, .slice p22_4 1 p22_c4]) hA hS 30 rfl rfl rfl (sets_store rfl rfl rfl (by kernel_rfl) hS 0 rfl rfl rfl) 0 rfl rfl rfl rfl ?_)
           intro w245 hS
           refine ⟨(hS.partD (.cons _ (.cons_cons _ (.cons_cons _ .slnil))) 2 rfl (.refl _)), ?_⟩
           refine any_end (by kernel_rfl) ?_
           refine hJ181 _ _ ⟨ro235, rc236, ro240, rc241, hA.keep _ ⟨rfl, rfl, rfl, rfl, rfl, rfl, rfl, rfl, rfl, rfl, rfl, rfl, rfl, rfl, rfl, rfl, rfl, rfl, rfl, rfl, rfl, rfl, rfl, rfl, rfl, rfl, rfl, rfl, rfl, rfl, rfl, rfl, rfl, trivial⟩, (St.pickRL hS ⟨⟨0, rfl⟩, ⟨⟨1, rfl⟩, ⟨⟨2, rfl⟩, ⟨⟨3, rfl⟩, ⟨⟨4, rfl⟩, ⟨⟨5, rfl⟩, ⟨⟨6, rfl⟩, ⟨⟨7, rfl⟩, ⟨⟨8, rfl⟩, ⟨⟨9, rfl⟩, ⟨⟨10, rfl⟩, ⟨⟨11, rfl⟩, trivial⟩⟩⟩⟩⟩⟩⟩⟩⟩⟩⟩⟩ [0, 1, 2] rfl (by decide)), ho242.nocap, ho242.caps, ho237.nocap, ho237.caps⟩
       · refine op_do hA 23 rfl rfl rfl rfl (d_load1 hS SmG_is1_22 rfl 0 rfl rfl) (hS.partD (.cons _ (.cons_cons _ (.cons_cons _ .slnil))) 0 rfl (.refl _)) ?_
         intro a hA
         refine any_one (by kernel_rfl) (op_do hA 2 rfl rfl rfl rfl (d_load1 hS SmG_is1_4 rfl 0 rfl rfl) (hS.partD (.cons _ (.cons_cons _ (.cons_cons _ .slnil))) 0 rfl (.refl _)) ?_)
         intro a hA
         refine any_tk (v := .bool true) hA 6 rfl rfl rfl rfl hP (hS.partD (.cons _ (.cons_cons _ (.cons_cons _ .slnil))) 0 rfl (.refl _)) (fun w1 hS => d_bin rfl rfl (fun w => ((bin_neqB Tryz.underlying4) w).trans (by rw [show (!((rb P.num) == rb u.num)) = true from (by rw [hb40, hsu]; rfl)]))) ?_
         intro a hA
         refine any_tk hA 7 rfl rfl rfl rfl hP (hS.partD (.cons _ (.cons_cons _ (.cons_cons _ .slnil))) 0 rfl (.refl _)) (fun w1 hS => d_move rfl) ?_
         intro a hA
         refine any_tk (v := .pointer (some ⟨g2, 0, none⟩)) hA 8 rfl rfl rfl rfl hP (hS.partD (.cons _ (.cons_cons _ (.cons_cons _ .slnil))) 0 rfl (.refl _)) (fun w1 hS => d_field SmG_fld_26_0 rfl rfl) ?_
         intro a hA
         refine any_tk (v := .pointer (some ⟨g2, 1, none⟩)) hA 9 rfl rfl rfl rfl hP (hS.partD (.cons _ (.cons_cons _ (.cons_cons _ .slnil))) 0 rfl (.refl _)) (fun w1 hS => d_field SmG_fld_24_1 rfl rfl) ?_
         intro a hA
         refine any_tk hA 10 rfl rfl rfl rfl hP (hS.partD (.cons _ (.cons_cons _ (.cons_cons _ .slnil))) 0 rfl (.refl _)) (fun w1 hS => d_load1 hS SmG_is1_22 rfl 1 rfl rfl) ?_
         intro a hA
         refine any_tk (v := .int .i64 ((((words u.num.natAbs).length : Nat) : Int))) hA 11 rfl rfl rfl rfl hP (hS.partD (.cons _ (.cons_cons _ (.cons_cons _ .slnil))) 0 rfl (.refl _)) (fun w1 hS => d_len Tryz.underlying22 rfl) ?_
         intro a hA
         refine any_tk (v := .bool true) hA 12 rfl rfl rfl rfl hP (hS.partD (.cons _ (.cons_cons _ (.cons_cons _ .slnil))) 0 rfl (.refl _)) (fun w1 hS => d_bin rfl rfl (fun w => (bin_gtr w).trans (by rw [show (decide (0 < (((words u.num.natAbs).length : Nat) : Int))) = true from (decide_eq_true (by omega))]))) ?_
         intro a hA
         refine any_tk (v := .bool ((rb (P * u).num))) hA 13 rfl rfl rfl rfl hP (hS.partD (.cons _ (.cons_cons _ (.cons_cons _ .slnil))) 0 rfl (.refl _)) (fun w1 hS => d_pick rfl rfl rfl (by rw [hsg9, hb40]; rfl)) ?_
         intro a hA
         refine any_one (by kernel_rfl) (op_call hA 20 rfl rfl rfl rfl (enters_func  rfl rfl (fun w => by kernel_rfl)) (rtimes_as hn9 _ _ (hS.rd 0 rfl) (hS.rd 9 rfl) (by omega) (by omega)) ?_)
         rintro _ w250 ⟨ro246, rc247, rfl, ho248, hb249⟩
         replace hS := hS.call hb249
         replace hS := hS.addR ho248.rd
         refine ⟨_, rfl, (hS.partD (.cons _ (.cons_cons _ (.cons_cons _ .slnil))) 1 rfl (.refl _)), ?_⟩
         intro a hA
         refine any_one (by kernel_rfl) (op_call hA 27 rfl rfl rfl rfl (enters_func  rfl rfl (fun w => by kernel_rfl)) (rtimes_as hd9 _ _ (hS.rd 2 rfl) (hS.rd 9 rfl) (by omega) (by omega)) ?_)
         rintro _ w255 ⟨ro251, rc252, rfl, ho253, hb254⟩
         replace hS := hS.call hb254
         replace hS := hS.addR ho253.rd
         refine ⟨_, rfl, (hS.partD (.cons _ (.cons_cons _ (.cons_cons _ .slnil))) 2 rfl (.refl _)), ?_⟩
         intro a hA
         refine any_tk (v := .agg #[.bool ((rb (P * u).num)), .slice ro246 ((words (P * u).num.natAbs).length) rc247, .slice ro251 ((words (P * u).den).length) rc252]) hA 28 rfl rfl rfl rfl hP (hS.partD (.cons _ (.cons_cons _ (.cons_cons _ .slnil))) 2 rfl (.refl _)) (fun w1 hS => d_build rfl (fun w => by kernel_rfl)) ?_
         intro a hA
         refine any_tk (v := .pointer (some ⟨g26, 0, none⟩)) hA 29 rfl rfl rfl rfl hP (hS.partD (.cons _ (.cons_cons _ (.cons_cons _ .slnil))) 2 rfl (.refl _)) (fun w1 hS => d_field SmG_fld_26_0 rfl rfl) ?_
         intro a hA
         refine any_one (by kernel_rfl) (op_store (us := [.bool ((rb (P * u).num)), .slice ro246 ((words (P * u).num.natAbs).length) rc247, .slice ro251 ((words (P * u).den).length) rc252, .bool false, .slice p22_3 0 p22_c3, .slice p22_4 1 p22_c4]) hA hS 30 rfl rfl rfl (sets_store rfl rfl rfl (by kernel_rfl) hS 0 rfl rfl rfl) 0 rfl rfl rfl rfl ?_)
         intro w256 hS
         refine ⟨(hS.partD (.cons _ (.cons_cons _ (.cons_cons _ .slnil))) 2 rfl (.refl _)), ?_⟩
         refine any_end (by kernel_rfl) ?_
         refine hJ181 _ _ ⟨ro246, rc247, ro251, rc252, hA.keep _ ⟨rfl, rfl, rfl, rfl, rfl, rfl, rfl, rfl, rfl, rfl, rfl, rfl, rfl, rfl, rfl, rfl, rfl, rfl, rfl, rfl, rfl, rfl, rfl, rfl, rfl, rfl, rfl, rfl, rfl, rfl, rfl, rfl, rfl, trivial⟩, (St.pickRL hS ⟨⟨0, rfl⟩, ⟨⟨1, rfl⟩, ⟨⟨2, rfl⟩, ⟨⟨3, rfl⟩, ⟨⟨4, rfl⟩, ⟨⟨5, rfl⟩, ⟨⟨6, rfl⟩, ⟨⟨7, rfl⟩, ⟨⟨8, rfl⟩, ⟨⟨9, rfl⟩, ⟨⟨10, rfl⟩, ⟨⟨11, rfl⟩, trivial⟩⟩⟩⟩⟩⟩⟩⟩⟩⟩⟩⟩ [0, 1, 2] rfl (by decide)), ho253.nocap, ho253.caps, ho248.nocap, ho248.caps⟩
     · refine op_do hA 23 rfl rfl rfl rfl (d_load1 hS SmG_is1_22 rfl 0 rfl rfl) (hS.partD (.cons _ (.cons_cons _ (.cons_cons _ .slnil))) 0 rfl (.refl _)) ?_
       intro a hA
       refine any_many (rs := [2, 16]) (by kernel_rfl) (by simp) ⟨?_, ?_, trivial⟩
       · refine op_do hA 2 rfl rfl rfl rfl (d_load1 hS SmG_is1_4 rfl 0 rfl rfl) (hS.partD (.cons _ (.cons_cons _ (.cons_cons _ .slnil))) 0 rfl (.refl _)) ?_
         intro a hA
         refine any_tk (v := .bool true) hA 6 rfl rfl rfl rfl hP (hS.partD (.cons _ (.cons_cons _ (.cons_cons _ .slnil))) 0 rfl (.refl _)) (fun w1 hS => d_bin rfl rfl (fun w => ((bin_neqB Tryz.underlying4) w).trans (by rw [show (!((rb P.num) == rb u.num)) = true from (by rw [hb40, hsu]; rfl)]))) ?_
         intro a hA
         refine any_tk hA 7 rfl rfl rfl rfl hP (hS.partD (.cons _ (.cons_cons _ (.cons_cons _ .slnil))) 0 rfl (.refl _)) (fun w1 hS => d_move rfl) ?_
         intro a hA
         refine any_tk (v := .pointer (some ⟨g2, 0, none⟩)) hA 8 rfl rfl rfl rfl hP (hS.partD (.cons _ (.cons_cons _ (.cons_cons _ .slnil))) 0 rfl (.refl _)) (fun w1 hS => d_field SmG_fld_26_0 rfl rfl) ?_
         intro a hA
         refine any_tk (v := .pointer (some ⟨g2, 1, none⟩)) hA 9 rfl rfl rfl rfl hP (hS.partD (.cons _ (.cons_cons _ (.cons_cons _ .slnil))) 0 rfl (.refl _)) (fun w1 hS => d_field SmG_fld_24_1 rfl rfl) ?_
         intro a hA
         refine any_tk hA 10 rfl rfl rfl rfl hP (hS.partD (.cons _ (.cons_cons _ (.cons_cons _ .slnil))) 0 rfl (.refl _)) (fun w1 hS => d_load1 hS SmG_is1_22 rfl 1 rfl rfl) ?_
         intro a hA
         refine any_tk (v := .int .i64 ((((words u.num.natAbs).length : Nat) : Int))) hA 11 rfl rfl rfl rfl hP (hS.partD (.cons _ (.cons_cons _ (.cons_cons _ .slnil))) 0 rfl (.refl _)) (fun w1 hS => d_len Tryz.underlying22 rfl) ?_
         intro a hA
         refine any_tk (v := .bool true) hA 12 rfl rfl rfl rfl hP (hS.partD (.cons _ (.cons_cons _ (.cons_cons _ .slnil))) 0 rfl (.refl _)) (fun w1 hS => d_bin rfl rfl (fun w => (bin_gtr w).trans (by rw [show (decide (0 < (((words u.num.natAbs).length : Nat) : Int))) = true from (decide_eq_true (by omega))]))) ?_
         intro a hA
         refine any_tk (v := .bool ((rb (P * u).num))) hA 13 rfl rfl rfl rfl hP (hS.partD (.cons _ (.cons_cons _ (.cons_cons _ .slnil))) 0 rfl (.refl _)) (fun w1 hS => d_pick rfl rfl rfl (by rw [hsg9, hb40]; rfl)) ?_
         intro a hA
         refine any_one (by kernel_rfl) (op_do hA 16 rfl rfl rfl rfl (d_load1 hS SmG_is1_22 rfl 0 rfl rfl) (hS.partD (.cons _ (.cons_cons _ (.cons_cons _ .slnil))) 0 rfl (.refl _)) ?_)
         intro a hA
         refine any_one (by kernel_rfl) (op_call hA 20 rfl rfl rfl rfl (enters_func  rfl rfl (fun w => by kernel_rfl)) (rtimes_as hn9 _ _ (hS.rd 0 rfl) (hS.rd 9 rfl) (by omega) (by omega)) ?_)
         rintro _ w261 ⟨ro257, rc258, rfl, ho259, hb260⟩
         replace hS := hS.call hb260
         replace hS := hS.addR ho259.rd
         refine ⟨_, rfl, (hS.partD (.cons _ (.cons_cons _ (.cons_cons _ .slnil))) 1 rfl (.refl _)), ?_⟩
         intro a hA
         refine any_one (by kernel_rfl) (op_call hA 27 rfl rfl rfl rfl (enters_func  rfl rfl (fun w => by kernel_rfl)) (rtimes_as hd9 _ _ (hS.rd 2 rfl) (hS.rd 9 rfl) (by omega) (by omega)) ?_)
         rintro _ w266 ⟨ro262, rc263, rfl, ho264, hb265⟩
         replace hS := hS.call hb265
         replace hS := hS.addR ho264.rd
         refine ⟨_, rfl, (hS.partD (.cons _ (.cons_cons _ (.cons_cons _ .slnil))) 2 rfl (.refl _)), ?_⟩
         intro a hA
         refine any_tk (v := .agg #[.bool ((rb (P * u).num)), .slice ro257 ((words (P * u).num.natAbs).length) rc258, .slice ro262 ((words (P * u).den).length) rc263]) hA 28 rfl rfl rfl rfl hP (hS.partD (.cons _ (.cons_cons _ (.cons_cons _ .slnil))) 2 rfl (.refl _)) (fun w1 hS => d_build rfl (fun w => by kernel_rfl)) ?_
         intro a hA
         refine any_tk (v := .pointer (some ⟨g26, 0, none⟩)) hA 29 rfl rfl rfl rfl hP (hS.partD (.cons _ (.cons_cons _ (.cons_cons _ .slnil))) 2 rfl (.refl _)) (fun w1 hS => d_field SmG_fld_26_0 rfl rfl) ?_
         intro a hA
         refine any_one (by kernel_rfl) (op_store (us := [.bool ((rb (P * u).num)), .slice ro257 ((words (P * u).num.natAbs).length) rc258, .slice ro262 ((words (P * u).den).length) rc263, .bool false, .slice p22_3 0 p22_c3, .slice p22_4 1 p22_c4]) hA hS 30 rfl rfl rfl (sets_store rfl rfl rfl (by kernel_rfl) hS 0 rfl rfl rfl) 0 rfl rfl rfl rfl ?_)
         intro w267 hS
         refine ⟨(hS.partD (.cons _ (.cons_cons _ (.cons_cons _ .slnil))) 2 rfl (.refl _)), ?_⟩
         refine any_end (by kernel_rfl) ?_
         refine hJ181 _ _ ⟨ro257, rc258, ro262, rc263, hA.keep _ ⟨rfl, rfl, rfl, rfl, rfl, rfl, rfl, rfl, rfl, rfl, rfl, rfl, rfl, rfl, rfl, rfl, rfl, rfl, rfl, rfl, rfl, rfl, rfl, rfl, rfl, rfl, rfl, rfl, rfl, rfl, rfl, rfl, rfl, trivial⟩, (St.pickRL hS ⟨⟨0, rfl⟩, ⟨⟨1, rfl⟩, ⟨⟨2, rfl⟩, ⟨⟨3, rfl⟩, ⟨⟨4, rfl⟩, ⟨⟨5, rfl⟩, ⟨⟨6, rfl⟩, ⟨⟨7, rfl⟩, ⟨⟨8, rfl⟩, ⟨⟨9, rfl⟩, ⟨⟨10, rfl⟩, ⟨⟨11, rfl⟩, trivial⟩⟩⟩⟩⟩⟩⟩⟩⟩⟩⟩⟩ [0, 1, 2] rfl (by decide)), ho264.nocap, ho264.caps, ho259.nocap, ho259.caps⟩
       · refine op_do hA 16 rfl rfl rfl rfl (d_load1 hS SmG_is1_22 rfl 0 rfl rfl) (hS.partD (.cons _ (.cons_cons _ (.cons_cons _ .slnil))) 0 rfl (.refl _)) ?_
         intro a hA
         refine any_one (by kernel_rfl) (op_do hA 2 rfl rfl rfl rfl (d_load1 hS SmG_is1_4 rfl 0 rfl rfl) (hS.partD (.cons _ (.cons_cons _ (.cons_cons _ .slnil))) 0 rfl (.refl _)) ?_)
         intro a hA
         refine any_tk (v := .bool true) hA 6 rfl rfl rfl rfl hP (hS.partD (.cons _ (.cons_cons _ (.cons_cons _ .slnil))) 0 rfl (.refl _)) (fun w1 hS => d_bin rfl rfl (fun w => ((bin_neqB Tryz.underlying4) w).trans (by rw [show (!((rb P.num) == rb u.num)) = true from (by rw [hb40, hsu]; rfl)]))) ?_
         intro a hA
         refine any_tk hA 7 rfl rfl rfl rfl hP (hS.partD (.cons _ (.cons_cons _ (.cons_cons _ .slnil))) 0 rfl (.refl _)) (fun w1 hS => d_move rfl) ?_
         intro a hA
         refine any_tk (v := .pointer (some ⟨g2, 0, none⟩)) hA 8 rfl rfl rfl rfl hP (hS.partD (.cons _ (.cons_cons _ (.cons_cons _ .slnil))) 0 rfl (.refl _)) (fun w1 hS => d_field SmG_fld_26_0 rfl rfl) ?_
         intro a hA
         refine any_tk (v := .pointer (some ⟨g2, 1, none⟩)) hA 9 rfl rfl rfl rfl hP (hS.partD (.cons _ (.cons_cons _ (.cons_cons _ .slnil))) 0 rfl (.refl _)) (fun w1 hS => d_field SmG_fld_24_1 rfl rfl) ?_
         intro a hA
         refine any_tk hA 10 rfl rfl rfl rfl hP (hS.partD (.cons _ (.cons_cons _ (.cons_cons _ .slnil))) 0 rfl (.refl _)) (fun w1 hS => d_load1 hS SmG_is1_22 rfl 1 rfl rfl) ?_
         intro a hA
         refine any_tk (v := .int .i64 ((((words u.num.natAbs).length : Nat) : Int))) hA 11 rfl rfl rfl rfl hP (hS.partD (.cons _ (.cons_cons _ (.cons_cons _ .slnil))) 0 rfl (.refl _)) (fun w1 hS => d_len Tryz.underlying22 rfl) ?_
         intro a hA
         refine any_tk (v := .bool true) hA 12 rfl rfl rfl rfl hP (hS.partD (.cons _ (.cons_cons _ (.cons_cons _ .slnil))) 0 rfl (.refl _)) (fun w1 hS => d_bin rfl rfl (fun w => (bin_gtr w).trans (by rw [show (decide (0 < (((words u.num.natAbs).length : Nat) : Int))) = true from (decide_eq_true (by omega))]))) ?_
         intro a hA
         refine any_tk (v := .bool ((rb (P * u).num))) hA 13 rfl rfl rfl rfl hP (hS.partD (.cons _ (.cons_cons _ (.cons_cons _ .slnil))) 0 rfl (.refl _)) (fun w1 hS => d_pick rfl rfl rfl (by rw [hsg9, hb40]; rfl)) ?_
         intro a hA
         refine any_one (by kernel_rfl) (op_call hA 20 rfl rfl rfl rfl (enters_func  rfl rfl (fun w => by kernel_rfl)) (rtimes_as hn9 _ _ (hS.rd 0 rfl) (hS.rd 9 rfl) (by omega) (by omega)) ?_)
         rintro _ w272 ⟨ro268, rc269, rfl, ho270, hb271⟩
         replace hS := hS.call hb271
         replace hS := hS.addR ho270.rd
         refine ⟨_, rfl, (hS.partD (.cons _ (.cons_cons _ (.cons_cons _ .slnil))) 1 rfl (.refl _)), ?_⟩
         intro a hA
         refine any_one (by kernel_rfl) (op_call hA 27 rfl rfl rfl rfl (enters_func  rfl rfl (fun w => by kernel_rfl)) (rtimes_as hd9 _ _ (hS.rd 2 rfl) (hS.rd 9 rfl) (by omega) (by omega)) ?_)
         rintro _ w277 ⟨ro273, rc274, rfl, ho275, hb276⟩
         replace hS := hS.call hb276
         replace hS := hS.addR ho275.rd
         refine ⟨_, rfl, (hS.partD (.cons _ (.cons_cons _ (.cons_cons _ .slnil))) 2 rfl (.refl _)), ?_⟩
         intro a hA
         refine any_tk (v := .agg #[.bool ((rb (P * u).num)), .slice ro268 ((words (P * u).num.natAbs).length) rc269, .slice ro273 ((words (P * u).den).length) rc274]) hA 28 rfl rfl rfl rfl hP (hS.partD (.cons _ (.cons_cons _ (.cons_cons _ .slnil))) 2 rfl (.refl _)) (fun w1 hS => d_build rfl (fun w => by kernel_rfl)) ?_
         intro a hA
         refine any_tk (v := .pointer (some ⟨g26, 0, none⟩)) hA 29 rfl rfl rfl rfl hP (hS.partD (.cons _ (.cons_cons _ (.cons_cons _ .slnil))) 2 rfl (.refl _)) (fun w1 hS => d_field SmG_fld_26_0 rfl rfl) ?_
         intro a hA
         refine any_one (by kernel_rfl) (op_store (us := [.bool ((rb (P * u).num)), .slice ro268 ((words (P * u).num.natAbs).length) rc269, .slice ro273 ((words (P * u).den).length) rc274, .bool false, .slice p22_3 0 p22_c3, .slice p22_4 1 p22_c4]) hA hS 30 rfl rfl rfl (sets_store rfl rfl rfl (by kernel_rfl) hS 0 rfl rfl rfl) 0 rfl rfl rfl rfl ?_)
         intro w278 hS
         refine ⟨(hS.partD (.cons _ (.cons_cons _ (.cons_cons _ .slnil))) 2 rfl (.refl _)), ?_⟩
         refine any_end (by kernel_rfl) ?_
         refine hJ181 _ _ ⟨ro268, rc269, ro273, rc274, hA.keep _ ⟨rfl, rfl, rfl, rfl, rfl, rfl, rfl, rfl, rfl, rfl, rfl, rfl, rfl, rfl, rfl, rfl, rfl, rfl, rfl, rfl, rfl, rfl, rfl, rfl, rfl, rfl, rfl, rfl, rfl, rfl, rfl, rfl, rfl, trivial⟩, (St.pickRL hS ⟨⟨0, rfl⟩, ⟨⟨1, rfl⟩, ⟨⟨2, rfl⟩, ⟨⟨3, rfl⟩, ⟨⟨4, rfl⟩, ⟨⟨5, rfl⟩, ⟨⟨6, rfl⟩, ⟨⟨7, rfl⟩, ⟨⟨8, rfl⟩, ⟨⟨9, rfl⟩, ⟨⟨10, rfl⟩, ⟨⟨11, rfl⟩, trivial⟩⟩⟩⟩⟩⟩⟩⟩⟩⟩⟩⟩ [0, 1, 2] rfl (by decide)), ho275.nocap, ho275.caps, ho270.nocap, ho270.caps⟩
 · have hb36' := of_decide_eq_false hb36
   refine seq_do (v := .bool false) hA rfl rfl rfl (d_bin rfl rfl (fun w => (bin_lss w).trans (by rw [hb36]))) ?_
   intro a hA
   refine seq_end ?_
   refine hK35 _ _ ?_
   refine wp_cond_false (hA.ev rfl) ?_
   refine wp_exit ?_
   refine hK29 _ _ ?_
   refine wp_seq_k (fun K279 hK279 => ?_)
   refine wp_seq_k (fun K280 hK280 => ?_)
   refine wp_region_lit ?_
   refine seq_do hA rfl rfl rfl (d_move rfl) ?_
   intro a hA
   refine seq_do (v := .bool true) hA rfl rfl rfl (d_bin rfl rfl (fun w => (bin_lss w).trans (by rw [show (decide (-((N : Nat) : Int) < 0)) = true from (decide_eq_true (by omega))]))) ?_
   intro a hA
   refine seq_end ?_
   refine hK280 _ _ ?_
   refine wp_cond_true (hA.ev rfl) ?_
   refine wp_region_lit ?_
   refine seq_do hA rfl rfl rfl (d_loadS hS SmG_isS_26 rfl 0 rfl (cs := [.bool ((rb P.num)), .slice po1 ((words P.num.natAbs).length) poc1, .slice po2 ((words P.den).length) poc2, .bool false, .slice p22_3 0 p22_c3, .slice p22_4 1 p22_c4]) rfl rfl) ?_
   intro a hA
   refine seq_call hA rfl rfl rfl (enters_func  rfl rfl (fun w => by kernel_rfl)) (rinv0_any (show Nm _ (Q6.real P) po1 poc1 po2 poc2 p22_3 p22_c3 p22_4 p22_c4 from ⟨⟨(hS.rd 0 rfl), kn1.1, kn1.2⟩, ⟨(hS.rd 1 rfl), kn2.1, kn2.2⟩, ⟨(hS.rd 3 rfl), hn23.s3.nil, hn23.s3.cap⟩, ⟨(hS.rd 2 rfl), hn23.s4.nil, hn23.s4.cap⟩⟩) LP (fun c => hz (pow_zero9 hPw hv0 c)) (iv_fst (by omega) hp9 j0) (iv_snd (by omega) hp9 j0)) ?_
   rintro _ w284 ⟨p281_1, p281_c1, p281_2, p281_c2, p281_3, p281_c3, p281_4, p281_c4, rfl, hn282, hb283⟩
   replace hS := hS.call hb283
   replace hS := hS.addR hn282.s1.rd
   replace hS := hS.addR hn282.s2.rd
   replace hS := hS.addR hn282.s3.rd
   replace hS := hS.addR hn282.s4.rd
   refine ⟨_, rfl, ?_⟩
   intro a hA
   refine seq_store (us := [.bool (rb i1.num), .slice p281_1 ((words i1.num.natAbs).length) p281_c1, .slice p281_2 ((words i1.den).length) p281_c2, .bool (rb i2.num), .slice p281_3 ((words i2.num.natAbs).length) p281_c3, .slice p281_4 ((words i2.den).length) p281_c4]) hA hS rfl rfl (sets_store rfl rfl rfl (by kernel_rfl) hS 0 rfl rfl rfl) 0 rfl rfl rfl rfl ?_
   intro w285 hS
   refine seq_end ?_
   refine hK279 _ _ ?_
   refine wp_seq_k (fun K286 hK286 => ?_)
   refine wp_region_lit ?_
   refine seq_do hA rfl rfl rfl (d_loadS hS SmG_isS_26 rfl 0 rfl (cs := [.bool (rb i1.num), .slice p281_1 ((words i1.num.natAbs).length) p281_c1, .slice p281_2 ((words i1.den).length) p281_c2, .bool (rb i2.num), .slice p281_3 ((words i2.num.natAbs).length) p281_c3, .slice p281_4 ((words i2.den).length) p281_c4]) rfl rfl) ?_
   intro a hA
   refine seq_call hA rfl rfl rfl (enters_func  rfl rfl (fun w => by kernel_rfl)) (rfit_any (show Nm _ (Q6.rat i1 i2) p281_1 p281_c1 p281_2 p281_c2 p281_3 p281_c3 p281_4 p281_c4 from ⟨⟨(hS.rd 3 rfl), hn282.s1.nil, hn282.s1.cap⟩, ⟨(hS.rd 2 rfl), hn282.s2.nil, hn282.s2.cap⟩, ⟨(hS.rd 1 rfl), hn282.s3.nil, hn282.s3.cap⟩, ⟨(hS.rd 0 rfl), hn282.s4.nil, hn282.s4.cap⟩⟩) (LI ((show i = N by omega) ▸ hB9)).1 (LI ((show i = N by omega) ▸ hB9)).2) ?_
   rintro _ w290 ⟨p287_1, p287_c1, p287_2, p287_c2, p287_3, p287_c3, p287_4, p287_c4, rfl, hn288, hb289⟩
   replace hS := hS.call hb289
   replace hS := hS.addR hn288.s1.rd
   replace hS := hS.addR hn288.s2.rd
   replace hS := hS.addR hn288.s3.rd
   replace hS := hS.addR hn288.s4.rd
   refine ⟨_, rfl, ?_⟩
   intro a hA
   refine seq_do (v := .agg #[.bool ((ratS i1 i2).1.b1), .slice p287_1 (((ratS i1 i2).1.t1).length) p287_c1, .slice p287_2 (((ratS i1 i2).1.q1).length) p287_c2, .bool ((ratS i1 i2).1.b2), .slice p287_3 (((ratS i1 i2).1.t2).length) p287_c3, .slice p287_4 (((ratS i1 i2).1.q2).length) p287_c4]) hA rfl rfl rfl (d_extract (vs := [.agg #[.bool ((ratS i1 i2).1.b1), .slice p287_1 (((ratS i1 i2).1.t1).length) p287_c1, .slice p287_2 (((ratS i1 i2).1.q1).length) p287_c2, .bool ((ratS i1 i2).1.b2), .slice p287_3 (((ratS i1 i2).1.t2).length) p287_c3, .slice p287_4 (((ratS i1 i2).1.q2).length) p287_c4], .int .i64 ((ratS i1 i2).2)]) rfl rfl) ?_
   intro a hA
   refine seq_do (v := .int .i64 ((ratS i1 i2).2)) hA rfl rfl rfl (d_extract (vs := [.agg #[.bool ((ratS i1 i2).1.b1), .slice p287_1 (((ratS i1 i2).1.t1).length) p287_c1, .slice p287_2 (((ratS i1 i2).1.q1).length) p287_c2, .bool ((ratS i1 i2).1.b2), .slice p287_3 (((ratS i1 i2).1.t2).length) p287_c3, .slice p287_4 (((ratS i1 i2).1.q2).length) p287_c4], .int .i64 ((ratS i1 i2).2)]) rfl rfl) ?_
   intro a hA
   refine seq_store (us := [.bool ((ratS i1 i2).1.b1), .slice p287_1 (((ratS i1 i2).1.t1).length) p287_c1, .slice p287_2 (((ratS i1 i2).1.q1).length) p287_c2, .bool ((ratS i1 i2).1.b2), .slice p287_3 (((ratS i1 i2).1.t2).length) p287_c3, .slice p287_4 (((ratS i1 i2).1.q2).length) p287_c4]) hA hS rfl rfl (sets_store rfl rfl rfl (by kernel_rfl) hS 1 rfl rfl rfl) 1 rfl rfl rfl rfl ?_
   intro w291 hS
   refine seq_do hA rfl rfl rfl (d_assign rfl) ?_
   intro a hA
   refine seq_end ?_
   refine hK286 _ _ ?_
   refine wp_ret ?_
   refine hret _ _ ?_
   refine ends (v := .tuple #[.agg #[.bool ((ratS i1 i2).1.b1), .slice p287_1 (((ratS i1 i2).1.t1).length) p287_c1, .slice p287_2 (((ratS i1 i2).1.q1).length) p287_c2, .bool ((ratS i1 i2).1.b2), .slice p287_3 (((ratS i1 i2).1.t2).length) p287_c3, .slice p287_4 (((ratS i1 i2).1.q2).length) p287_c4], .int .i64 ((ratS i1 i2).2)]) hA rfl (.cons (res_cell hS SmG_isS_26 rfl 1 rfl (cs := [.bool ((ratS i1 i2).1.b1), .slice p287_1 (((ratS i1 i2).1.t1).length) p287_c1, .slice p287_2 (((ratS i1 i2).1.q1).length) p287_c2, .bool ((ratS i1 i2).1.b2), .slice p287_3 (((ratS i1 i2).1.t2).length) p287_c3, .slice p287_4 (((ratS i1 i2).1.q2).length) p287_c4]) rfl rfl) (.cons (res_tmp rfl) .nil)) rfl ?_
   obtain rfl : i = N := by omega
   rw [exptQ_neg hu hv (by omega) h2 hz, if_pos hB9, j0]
   show AnsN w (ratS i1 i2) _ _
   exact ⟨p287_1, p287_c1, p287_2, p287_c2, p287_3, p287_c3, p287_4, p287_c4, rfl, ⟨⟨(hS.rd 3 rfl), hn288.s1.nil, hn288.s1.cap⟩, ⟨(hS.rd 2 rfl), hn288.s2.nil, hn288.s2.cap⟩, ⟨(hS.rd 1 rfl), hn288.s3.nil, hn288.s3.cap⟩, ⟨(hS.rd 0 rfl), hn288.s4.nil, hn288.s4.cap⟩⟩, hS.bel⟩
end Go.Proofs.YthlkbnhbmfmchaaGreat
