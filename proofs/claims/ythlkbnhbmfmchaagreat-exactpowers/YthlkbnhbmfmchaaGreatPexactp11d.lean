/- Walks of the document's Expt. Walks of the document's Expt of numbers that are not real, and of any number. -/
import Derived.Test.YthlkbnhbmfmchaaGreatPexactp11b
import Derived.Test.YthlkbnhbmfmchaaGreatPexactp11c
namespace Go.Proofs.YthlkbnhbmfmchaaGreat
open Go.RowKit
set_option linter.unusedVariables false
set_option linter.unusedSimpArgs false
set_option maxRecDepth 100000
theorem SmG_is1_22 : Is1 Tryz.prog 22 := ⟨⟨_, Tryz.underlying22, rfl⟩, by kernel_rfl⟩
theorem SmG_is1_4 : Is1 Tryz.prog 4 := ⟨⟨_, Tryz.underlying4, rfl⟩, by kernel_rfl⟩
theorem SmG_fld_24_0 : FieldAt Tryz.prog 24 0 0 := ⟨_, _, Tryz.underlying24, rfl, rfl, by kernel_rfl⟩
theorem SmG_fld_24_1 : FieldAt Tryz.prog 24 1 1 := ⟨_, _, Tryz.underlying24, rfl, rfl, by kernel_rfl⟩
theorem SmG_fld_24_2 : FieldAt Tryz.prog 24 2 2 := ⟨_, _, Tryz.underlying24, rfl, rfl, by kernel_rfl⟩
theorem SmG_fld_26_0 : FieldAt Tryz.prog 26 0 0 := ⟨_, _, Tryz.underlying26, rfl, rfl, by kernel_rfl⟩
theorem SmG_isS_26 : IsS Tryz.prog 26 6 := ⟨⟨_, Tryz.underlying26⟩, by kernel_rfl⟩
theorem rpow_num {u P : Rat} {i : Nat} (h : P = u ^ i) : (P * u).num = P.num * u.num ∧ (P * u).den = P.den * u.den := by
  subst h
  rw [← Rat.pow_succ, Rat.num_pow, Rat.den_pow, Rat.num_pow, Rat.den_pow, Int.pow_succ, Nat.pow_succ]
  exact ⟨rfl, rfl⟩
theorem rtimes_as {w : World} {ao bo : Option Addr} {x y z : Nat} (hz : x * y = z) (ca cb : Nat) (ha : Rd w ao (words x)) (hb : Rd w bo (words y)) (hx : (words x).length ≤ 5000) (hy : (words y).length ≤ 5000) : Calls Tryz.prog 73 #[.slice ao (words x).length ca, .slice bo (words y).length cb] w (Row1 w (words z)) := hz ▸ rtimes_any ca cb ha hb (by omega) (by omega)
theorem real_one : Q6.real 1 = Q6.whole false 1 := by
  unfold Q6.real Q6.whole
  rw [show (1 : Rat).den = 1 from rfl, show (1 : Rat).num.natAbs = 1 from rfl, words_one]
  rfl
theorem rint1_any {w : World} : Calls Tryz.prog 25 #[.int .i64 1] w (AnsV w (Q6.real 1)) := by
  rw [real_one]
  exact rintP_any (k := 1) (by decide)
theorem rint1c_any {w : World} : Calls Tryz.prog 25 #[.int .i64 1] w (AnsV w (Q6.rat 1 0)) := by
  rw [rat0_eq]
  exact rint1_any
theorem len_one : LenR 512 1 := by
  unfold LenR
  rw [show (1 : Rat).den = 1 from rfl, show (1 : Rat).num.natAbs = 1 from rfl, words_one]
  decide
theorem len_zero : LenR 512 0 := fit_lenR fit_zero
theorem rinv0_any {w : World} {u : Rat} {a1 a2 a3 a4 : Option Addr} {ac1 ac2 ac3 ac4 : Nat} (ha : Nm w (Q6.real u) a1 ac1 a2 ac2 a3 ac3 a4 ac4) (LR_u : LenR 512 u) (hz : u ≠ 0) {i1 i2 : Rat} (j1 : u / (u * u + 0 * 0) = i1) (j2 : -0 / (u * u + 0 * 0) = i2) : Calls Tryz.prog 75 #[numV (Q6.real u) a1 ac1 a2 ac2 a3 ac3 a4 ac4] w (AnsV w (Q6.rat i1 i2)) := by
  rw [← rat0_eq] at *
  have h := rinvQ_any ha LR_u len_zero (fun c => hz c.1)
  rw [show u * (1 / (u * u + 0 * 0)) = i1 from by rw [← j1]; grind, show -0 * (1 / (u * u + 0 * 0)) = i2 from by rw [← j2]; grind] at h
  exact h
theorem rinvc_any {w : World} {u v : Rat} {a1 a2 a3 a4 : Option Addr} {ac1 ac2 ac3 ac4 : Nat} (ha : Nm w (Q6.rat u v) a1 ac1 a2 ac2 a3 ac3 a4 ac4) (LR_u : LenR 512 u) (LR_v : LenR 512 v) (hz : ¬ (u = 0 ∧ v = 0)) {i1 i2 : Rat} (j1 : u / (u * u + v * v) = i1) (j2 : -v / (u * u + v * v) = i2) : Calls Tryz.prog 75 #[numV (Q6.rat u v) a1 ac1 a2 ac2 a3 ac3 a4 ac4] w (AnsV w (Q6.rat i1 i2)) := by
  have h := rinvQ_any ha LR_u LR_v hz
  rw [show u * (1 / (u * u + v * v)) = i1 from by rw [← j1]; grind, show -v * (1 / (u * u + v * v)) = i2 from by rw [← j2]; grind] at h
  exact h
theorem lenR_inv9 {n : Rat} {k : Nat} (h : 0 < n) (hn : LenR k n) : LenR k (1 / n) := by
  obtain ⟨i1, i2, _⟩ := inv_parts h
  exact ⟨by rw [i1]; exact hn.2, by rw [i2]; exact hn.1⟩
theorem lenR_iv {u v : Rat} (hu : LenR 512 u) (hv : LenR 512 v) (hz : ¬ (u = 0 ∧ v = 0)) : LenR 9000 (u / (u * u + v * v)) ∧ LenR 9000 (-v / (u * u + v * v)) := by
  have hp := sq_gt hz
  have ln := lenR_inv9 hp (lenR_add (lenR_mul hu hu) (lenR_mul hv hv))
  rw [show u / (u * u + v * v) = u * (1 / (u * u + v * v)) from by grind, show -v / (u * u + v * v) = -v * (1 / (u * u + v * v)) from by grind]
  exact ⟨(lenR_mul hu ln).mono (by decide), (lenR_mul (lenR_neg hv) ln).mono (by decide)⟩
theorem rb_flip {x y : Int} (h : rb y = true) (hx : x ≠ 0) : rb (x * y) = !rb x := by
  have h1 := of_decide_eq_true h
  unfold rb
  by_cases k : x < 0
  · rw [decide_eq_true k, decide_eq_false (by have := Int.mul_pos_of_neg_of_neg k h1; omega)]; rfl
  · rw [decide_eq_false k, decide_eq_true (Int.mul_neg_of_pos_of_neg (by omega) h1)]; rfl
theorem pow_num_ne {u : Rat} (h : u.num ≠ 0) (i : Nat) : (u ^ i).num ≠ 0 := by rw [Rat.num_pow]; exact Int.pow_ne_zero h
theorem rb_nn {x y : Int} (h : rb x = false) (k : rb y = false) : rb (x * y) = false := by
  have h1 := of_decide_eq_false h
  have k1 := of_decide_eq_false k
  exact decide_eq_false (by have := Int.mul_nonneg (show 0 ≤ x by omega) (show 0 ≤ y by omega); omega)
theorem pow_zero9 {u v P : Rat} {i : Nat} (h : P = u ^ i) (hv : v = 0) (hP : P = 0) : u = 0 ∧ v = 0 := by
  refine ⟨?_, hv⟩
  rw [h] at hP
  by_cases k : u.num = 0
  · exact Rat.num_eq_zero.1 k
  · have h1 : (u ^ i).num ≠ 0 := by rw [Rat.num_pow]; exact Int.pow_ne_zero k
    rw [hP] at h1
    exact absurd rfl h1
theorem iv_fst {u v P i1 i2 : Rat} {i N : Nat} (hi : i = N) (h : pwR u v i = (P, 0)) (j : ivR (pwR u v N) = (i1, i2)) : P / (P * P + 0 * 0) = i1 := by
  subst hi
  rw [h] at j
  exact congrArg Prod.fst j
theorem iv_snd {u v P i1 i2 : Rat} {i N : Nat} (hi : i = N) (h : pwR u v i = (P, 0)) (j : ivR (pwR u v N) = (i1, i2)) : -0 / (P * P + 0 * 0) = i2 := by
  subst hi
  rw [h] at j
  exact congrArg Prod.snd j
theorem iv_fstc {u v A B i1 i2 : Rat} {i N : Nat} (hi : i = N) (h : pwR u v i = (A, B)) (j : ivR (pwR u v N) = (i1, i2)) : A / (A * A + B * B) = i1 := by
  subst hi
  rw [h] at j
  exact congrArg Prod.fst j
theorem iv_sndc {u v A B i1 i2 : Rat} {i N : Nat} (hi : i = N) (h : pwR u v i = (A, B)) (j : ivR (pwR u v N) = (i1, i2)) : -B / (A * A + B * B) = i2 := by
  subst hi
  rw [h] at j
  exact congrArg Prod.snd j
theorem ex_pos {u v : Rat} (hu : fitR u) (hv : fitR v) {n : Int} {N : Nat} (hN : n.natAbs = N) (h1 : 1 ≤ N) (h2 : N ≤ 1024) (hn : ¬ n < 0) : exptQ (Q6.rat u v) n = (if pwB u v N = true then ratS (pwR u v N).1 (pwR u v N).2 else (Q6.zero, 4)) := by
  obtain rfl : n = ((N : Nat) : Int) := by omega
  exact exptQ_pos hu hv h1 h2
theorem ex_neg {u v : Rat} (hu : fitR u) (hv : fitR v) {n : Int} {N : Nat} (hN : n.natAbs = N) (h1 : 1 ≤ N) (h2 : N ≤ 1024) (hn : n < 0) (hz : ¬ (u = 0 ∧ v = 0)) : exptQ (Q6.rat u v) n = (if pwB u v N = true then ratS (ivR (pwR u v N)).1 (ivR (pwR u v N)).2 else (Q6.zero, 4)) := by
  obtain rfl : n = -((N : Nat) : Int) := by omega
  exact exptQ_neg hu hv (by omega) h2 hz
theorem ex_stop {u v : Rat} (hu : fitR u) (hv : fitR v) {n : Int} {N : Nat} (hN : n.natAbs = N) (h1 : 1 ≤ N) (h2 : N ≤ 1024) (hz : n < 0 → ¬ (u = 0 ∧ v = 0)) (hB : pwB u v N = false) : exptQ (Q6.rat u v) n = (Q6.zero, 4) := by
  by_cases hn : n < 0
  · rw [ex_neg hu hv hN h1 h2 hn (hz hn), hB]; rfl
  · rw [ex_pos hu hv hN h1 h2 hn, hB]; rfl
set_option maxHeartbeats 2000000 in
theorem rexRf_any {w : World} {u v : Rat} {a1 a2 a3 a4 : Option Addr} {ac1 ac2 ac3 ac4 : Nat} (ha : Nm w (Q6.rat u v) a1 ac1 a2 ac2 a3 ac3 a4 ac4) (hu : fitR u) (hv : fitR v) {n : Int} {N : Nat} (hN : n.natAbs = N) (h1 : 1 ≤ N) (h2 : N ≤ 1024) (hz : n < 0 → ¬ (u = 0 ∧ v = 0)) (k2 : decide ((Q6.rat u v).t2.length = 0) = true) (hv0 : v = 0) (hsu : rb u.num = false) (LU : LenR 512 u) {i1 i2 : Rat} (j0 : ivR (pwR u v N) = (i1, i2)) (LI : n < 0 → pwB u v N = true → LenR 9000 i1 ∧ LenR 9000 i2) : Calls Tryz.prog 31 #[numV (Q6.rat u v) a1 ac1 a2 ac2 a3 ac3 a4 ac4, .int .i64 n] w (AnsN w (exptQ (Q6.rat u v) n)) := by
 have hS : St w w [] [(a4, words v.den), (a3, words v.num.natAbs), (a2, words u.den), (a1, words u.num.natAbs)] [] := ((((St.start w).addR ha.s1.rd).addR ha.s2.rd).addR ha.s3.rd).addR ha.s4.rd
 refine walk_of (l := [(0, .agg #[.bool (rb u.num), .slice a1 ((words u.num.natAbs).length) ac1, .slice a2 ((words u.den).length) ac2, .bool (rb v.num), .slice a3 ((words v.num.natAbs).length) ac3, .slice a4 ((words v.den).length) ac4]), (1, .int .i64 n)]) Tryz.func31 rfl Tryz.ntmps31 rfl rfl ?_
 intro Q hret hnorm hP a hA
 refine wp_seq_k (fun K1 hK1 => ?_)
 refine wp_region_lit ?_
 refine seq_new hA hS rfl rfl rfl (fun g => .pointer (some ⟨g, 0, none⟩)) (d_box rfl rfl) rfl ?_
 intro g2 w3 hS a hA
 refine seq_new (vs := [.bool false, .slice none 0 0, .slice none 0 0, .bool false, .slice none 0 0, .slice none 0 0]) (t := 26) hA hS rfl rfl rfl (fun g => .pointer (some ⟨g, 0, none⟩)) (d_alloc (z := .agg #[.bool false, .slice none 0 0, .slice none 0 0, .bool false, .slice none 0 0, .slice none 0 0]) (by kernel_rfl) rfl) rfl ?_
 intro g4 w5 hS a hA
 refine seq_do hA rfl rfl rfl (d_assign rfl) ?_
 intro a hA
 refine seq_end ?_
 refine hK1 _ _ ?_
 refine wp_seq_k (fun K6 hK6 => ?_)
 refine wp_seq_k (fun K7 hK7 => ?_)
 refine wp_region_lit ?_
 refine seq_do hA rfl rfl rfl (d_loadS hS SmG_isS_26 rfl 1 rfl (cs := [.bool (rb u.num), .slice a1 ((words u.num.natAbs).length) ac1, .slice a2 ((words u.den).length) ac2, .bool (rb v.num), .slice a3 ((words v.num.natAbs).length) ac3, .slice a4 ((words v.den).length) ac4]) rfl rfl) ?_
 intro a hA
 refine seq_call hA rfl rfl rfl (enters_func  rfl rfl (fun w => by kernel_rfl)) (rsoundQ_any (show Nm _ (Q6.rat u v) a1 ac1 a2 ac2 a3 ac3 a4 ac4 from ⟨⟨(hS.rd 3 rfl), ha.s1.nil, ha.s1.cap⟩, ⟨(hS.rd 2 rfl), ha.s2.nil, ha.s2.cap⟩, ⟨(hS.rd 1 rfl), ha.s3.nil, ha.s3.cap⟩, ⟨(hS.rd 0 rfl), ha.s4.nil, ha.s4.cap⟩⟩) (lenQ_rat hu hv) (soundQ_rat hu hv)) ?_
 rintro _ w9 ⟨rfl, hb8⟩
 replace hS := hS.call hb8
 refine ⟨_, rfl, ?_⟩
 intro a hA
 refine seq_do (v := .bool false) hA rfl rfl rfl (d_un rfl un_not) ?_
 intro a hA
 refine seq_end ?_
 refine hK7 _ _ ?_
 refine wp_cond_false (hA.ev rfl) ?_
 refine wp_skip ?_
 refine hK6 _ _ ?_
 refine wp_seq_k (fun K10 hK10 => ?_)
 refine wp_seq_k (fun K11 hK11 => ?_)
 refine wp_region_lit ?_
 refine seq_do hA rfl rfl rfl (d_move rfl) ?_
 intro a hA
 refine seq_do (v := .bool false) hA rfl rfl rfl (d_bin rfl rfl (fun w => (bin_lss w).trans (by rw [show (decide (n < -1024)) = false from (decide_eq_false (by omega))]))) ?_
 intro a hA
 refine seq_do hA rfl rfl rfl (d_move rfl) ?_
 intro a hA
 refine seq_do hA rfl rfl rfl (d_move rfl) ?_
 intro a hA
 refine seq_do (v := .bool false) hA rfl rfl rfl (d_bin rfl rfl (fun w => (bin_gtr w).trans (by rw [show (decide (1024 < n)) = false from (decide_eq_false (by omega))]))) ?_
 intro a hA
 refine seq_do (v := .bool false) hA rfl rfl rfl (d_pick rfl rfl rfl rfl) ?_
 intro a hA
 refine seq_end ?_
 refine hK11 _ _ ?_
 refine wp_cond_false (hA.ev rfl) ?_
 refine wp_skip ?_
 refine hK10 _ _ ?_
 refine wp_seq_k (fun K12 hK12 => ?_)
 refine wp_seq_k (fun K13 hK13 => ?_)
 refine wp_region_lit ?_
 refine seq_do hA rfl rfl rfl (d_move rfl) ?_
 intro a hA
 refine seq_do (v := .bool false) hA rfl rfl rfl (d_bin rfl rfl (fun w => (bin_eql w).trans (by rw [show ((n == 0)) = false from (beq_eq_false_iff_ne.2 (by omega))]))) ?_
 intro a hA
 refine seq_end ?_
 refine hK13 _ _ ?_
 refine wp_cond_false (hA.ev rfl) ?_
 refine wp_skip ?_
 refine hK12 _ _ ?_
 refine wp_seq_k (fun K14 hK14 => ?_)
 refine wp_seq_k (fun K15 hK15 => ?_)
 have hJ21 : ∀ a w1, (Sl a 87 [(0, .agg #[.bool (rb u.num), .slice a1 ((words u.num.natAbs).length) ac1, .slice a2 ((words u.den).length) ac2, .bool (rb v.num), .slice a3 ((words v.num.natAbs).length) ac3, .slice a4 ((words v.den).length) ac4]), (1, .int .i64 n), (2, .pointer (some ⟨g2, 0, none⟩)), (4, .pointer (some ⟨g4, 0, none⟩)), (5, .int .i64 0), (9, .agg #[.bool (rb u.num), .slice a1 ((words u.num.natAbs).length) ac1, .slice a2 ((words u.den).length) ac2, .bool (rb v.num), .slice a3 ((words v.num.natAbs).length) ac3, .slice a4 ((words v.den).length) ac4]), (10, .bool true), (11, .bool false), (13, .int .i64 n), (14, .bool false), (15, .bool false), (16, .int .i64 n), (17, .bool false), (18, .bool false), (20, .int .i64 n), (21, .bool false), (28, .bool false)] ∧ St w w1 [(g4, [.bool false, .slice none 0 0, .slice none 0 0, .bool false, .slice none 0 0, .slice none 0 0]), (g2, [.bool (rb u.num), .slice a1 ((words u.num.natAbs).length) ac1, .slice a2 ((words u.den).length) ac2, .bool (rb v.num), .slice a3 ((words v.num.natAbs).length) ac3, .slice a4 ((words v.den).length) ac4])] [(a4, words v.den), (a3, words v.num.natAbs), (a2, words u.den), (a1, words u.num.natAbs)] []) → K15 a w1 := by
   clear hA hS
   rintro a w22 ⟨hA, hS⟩
   refine hK15 _ _ ?_
   refine wp_cond_false (hA.ev rfl) ?_
   refine wp_skip ?_
   refine hK14 _ _ ?_
   refine wp_seq_k (fun K23 hK23 => ?_)
   refine wp_region_lit ?_
   refine seq_do hA rfl rfl rfl (d_move rfl) ?_
   intro a hA
   refine seq_do hA rfl rfl rfl (d_assign rfl) ?_
   intro a hA
   refine seq_end ?_
   refine hK23 _ _ ?_
   refine wp_seq_k (fun K24 hK24 => ?_)
   refine wp_seq_k (fun K25 hK25 => ?_)
   refine wp_region_lit ?_
   refine seq_do hA rfl rfl rfl (d_move rfl) ?_
   intro a hA
   refine seq_do (v := .bool (decide (n < 0))) hA rfl rfl rfl (d_bin rfl rfl bin_lss) ?_
   intro a hA
   refine seq_end ?_
   refine hK25 _ _ ?_
   have hJ26 : ∀ a w1, (Sl a 87 [(0, .agg #[.bool (rb u.num), .slice a1 ((words u.num.natAbs).length) ac1, .slice a2 ((words u.den).length) ac2, .bool (rb v.num), .slice a3 ((words v.num.natAbs).length) ac3, .slice a4 ((words v.den).length) ac4]), (1, .int .i64 n), (2, .pointer (some ⟨g2, 0, none⟩)), (4, .pointer (some ⟨g4, 0, none⟩)), (5, .int .i64 0), (6, .int .i64 (((N : Nat) : Int))), (9, .agg #[.bool (rb u.num), .slice a1 ((words u.num.natAbs).length) ac1, .slice a2 ((words u.den).length) ac2, .bool (rb v.num), .slice a3 ((words v.num.natAbs).length) ac3, .slice a4 ((words v.den).length) ac4]), (10, .bool true), (11, .bool false), (13, .int .i64 n), (14, .bool false), (15, .bool false), (16, .int .i64 n), (17, .bool false), (18, .bool false), (20, .int .i64 n), (21, .bool false), (28, .bool false), (30, .int .i64 n), (31, .int .i64 n)] ∧ St w w1 [(g4, [.bool false, .slice none 0 0, .slice none 0 0, .bool false, .slice none 0 0, .slice none 0 0]), (g2, [.bool (rb u.num), .slice a1 ((words u.num.natAbs).length) ac1, .slice a2 ((words u.den).length) ac2, .bool (rb v.num), .slice a3 ((words v.num.natAbs).length) ac3, .slice a4 ((words v.den).length) ac4])] [(a4, words v.den), (a3, words v.num.natAbs), (a2, words u.den), (a1, words u.num.natAbs)] []) → K24 a w1 := by
     clear hA hS
     rintro a w27 ⟨hA, hS⟩
     refine hK24 _ _ ?_
     refine wp_seq_k (fun K28 hK28 => ?_)
     refine wp_region_lit ?_
     refine seq_call hA rfl rfl rfl (enters_func  rfl rfl (fun w => by kernel_rfl)) (rint1_any) ?_
     rintro _ w32 ⟨p29_1, p29_c1, p29_2, p29_c2, p29_3, p29_c3, p29_4, p29_c4, rfl, hn30, hb31⟩
     replace hS := hS.call hb31
     replace hS := hS.addR hn30.s1.rd
     replace hS := hS.addR hn30.s2.rd
     replace hS := hS.addR hn30.s3.rd
     replace hS := hS.addR hn30.s4.rd
     refine ⟨_, rfl, ?_⟩
     intro a hA
     refine seq_new (vs := [.bool false, .slice none 0 0, .slice none 0 0, .bool false, .slice none 0 0, .slice none 0 0]) (t := 26) hA hS rfl rfl rfl (fun g => .pointer (some ⟨g, 0, none⟩)) (d_alloc (z := .agg #[.bool false, .slice none 0 0, .slice none 0 0, .bool false, .slice none 0 0, .slice none 0 0]) (by kernel_rfl) rfl) rfl ?_
     intro g33 w34 hS a hA
     refine seq_store (us := [.bool ((rb (1 : Rat).num)), .slice p29_1 ((words (1 : Rat).num.natAbs).length) p29_c1, .slice p29_2 ((words (1 : Rat).den).length) p29_c2, .bool false, .slice p29_3 0 p29_c3, .slice p29_4 1 p29_c4]) hA hS rfl rfl (sets_store rfl rfl rfl (by kernel_rfl) hS 0 rfl rfl rfl) 0 rfl rfl rfl rfl ?_
     intro w35 hS
     refine seq_end ?_
     refine hK28 _ _ ?_
     refine wp_seq_k (fun K36 hK36 => ?_)
     refine wp_seq_k (fun K37 hK37 => ?_)
     refine wp_region_lit ?_
     refine seq_do hA rfl rfl rfl (d_assign rfl) ?_
     intro a hA
     refine seq_end ?_
     refine hK37 _ _ ?_
     refine wp_block ?_
     refine wp_loop_n (fun m a w1 => ∃ (i : Nat) (P : Rat) (po1 : Option Addr) (poc1 : Nat) (po2 : Option Addr) (poc2 : Nat), m = N - i ∧ (i ≤ N ∧ pwR u v i = (P, 0) ∧ pwB u v i = true ∧ LenR 512 P ∧ P = u ^ i ∧ rb P.num = false ∧ Ncap po1 poc1 (words P.num.natAbs) ∧ Ncap po2 poc2 (words P.den)) ∧ Sl a 87 [(0, .agg #[.bool (rb u.num), .slice a1 ((words u.num.natAbs).length) ac1, .slice a2 ((words u.den).length) ac2, .bool (rb v.num), .slice a3 ((words v.num.natAbs).length) ac3, .slice a4 ((words v.den).length) ac4]), (1, .int .i64 n), (2, .pointer (some ⟨g2, 0, none⟩)), (4, .pointer (some ⟨g4, 0, none⟩)), (6, .int .i64 (((N : Nat) : Int))), (7, .pointer (some ⟨g33, 0, none⟩)), (8, .int .i64 (((i : Nat) : Int))), (9, .agg #[.bool (rb u.num), .slice a1 ((words u.num.natAbs).length) ac1, .slice a2 ((words u.den).length) ac2, .bool (rb v.num), .slice a3 ((words v.num.natAbs).length) ac3, .slice a4 ((words v.den).length) ac4]), (10, .bool true), (11, .bool false), (13, .int .i64 n), (14, .bool false), (15, .bool false), (16, .int .i64 n), (17, .bool false), (18, .bool false), (20, .int .i64 n), (21, .bool false), (28, .bool false), (30, .int .i64 n), (31, .int .i64 n), (35, .agg #[.bool ((rb (1 : Rat).num)), .slice p29_1 ((words (1 : Rat).num.natAbs).length) p29_c1, .slice p29_2 ((words (1 : Rat).den).length) p29_c2, .bool false, .slice p29_3 0 p29_c3, .slice p29_4 1 p29_c4])] ∧ St w w1 [(g33, [.bool ((rb P.num)), .slice po1 ((words P.num.natAbs).length) poc1, .slice po2 ((words P.den).length) poc2, .bool false, .slice p29_3 0 p29_c3, .slice p29_4 1 p29_c4]), (g4, [.bool false, .slice none 0 0, .slice none 0 0, .bool false, .slice none 0 0, .slice none 0 0]), (g2, [.bool (rb u.num), .slice a1 ((words u.num.natAbs).length) ac1, .slice a2 ((words u.den).length) ac2, .bool (rb v.num), .slice a3 ((words v.num.natAbs).length) ac3, .slice a4 ((words v.den).length) ac4])] [(po1, words P.num.natAbs), (po2, words P.den), (p29_4, [1]), (p29_3, []), (p29_2, words (1 : Rat).den), (p29_1, words (1 : Rat).num.natAbs), (a4, words v.den), (a3, words v.num.natAbs), (a2, words u.den), (a1, words u.num.natAbs)] []) _ ⟨0, 1, p29_1, p29_c1, p29_2, p29_c2, rfl, ⟨by omega, rfl, rfl, len_one, (Rat.pow_zero u).symm, rfl, ⟨hn30.s1.nil, hn30.s1.cap⟩, ⟨hn30.s2.nil, hn30.s2.cap⟩⟩, hA.keep _ ⟨rfl, rfl, rfl, rfl, rfl, rfl, rfl, rfl, rfl, rfl, rfl, rfl, rfl, rfl, rfl, rfl, rfl, rfl, rfl, rfl, rfl, rfl, trivial⟩, ((hS.pickR [(p29_1, words (1 : Rat).num.natAbs), (p29_2, words (1 : Rat).den), (p29_4, [1]), (p29_3, []), (p29_2, words (1 : Rat).den), (p29_1, words (1 : Rat).num.natAbs), (a4, words v.den), (a3, words v.num.natAbs), (a2, words u.den), (a1, words u.num.natAbs)] ⟨⟨3, rfl⟩, ⟨⟨2, rfl⟩, ⟨⟨0, rfl⟩, ⟨⟨1, rfl⟩, ⟨⟨2, rfl⟩, ⟨⟨3, rfl⟩, ⟨⟨4, rfl⟩, ⟨⟨5, rfl⟩, ⟨⟨6, rfl⟩, ⟨⟨7, rfl⟩, trivial⟩⟩⟩⟩⟩⟩⟩⟩⟩⟩).subL _ (.refl _))⟩ ?_
     clear hS hA
     rintro m a w38 ⟨i, P, po1, poc1, po2, poc2, rfl, hinv40, hA, hS⟩ K39 hK39
     obtain ⟨hi9, hp9, hB9, LP, hPw, hPs, kn1, kn2⟩ := hinv40
     have hq9 := rpow_num hPw
     have hn9 : P.num.natAbs * u.num.natAbs = (P * u).num.natAbs := by rw [hq9.1, Int.natAbs_mul]
     have hd9 : P.den * u.den = (P * u).den := hq9.2.symm
     have l9a := LP.1
     have l9b := LP.2
     have l9c := LU.1
     have l9d := LU.2
     have LPu : LenR 9000 (P * u) := (lenR_mul LP LU).mono (by decide)
     have hs9 : pwR u v (i + 1) = (P * u, 0) := by
       show ((pwR u v i).1 * u - (pwR u v i).2 * v, (pwR u v i).1 * v + (pwR u v i).2 * u) = (P * u, 0)
       rw [hp9, hv0]
       congr 1 <;> grind
     have hPu : P * u = u ^ (i + 1) := by rw [hPw, Rat.pow_succ]
     have hsg9 : rb (P * u).num = false := by rw [hq9.1]; exact rb_nn hPs hsu
     refine wp_seq_k (fun K41 hK41 => ?_)
     refine wp_seq_k (fun K42 hK42 => ?_)
     refine wp_region_lit ?_
     refine seq_do hA rfl rfl rfl (d_move rfl) ?_
     intro a hA
     refine seq_do hA rfl rfl rfl (d_move rfl) ?_
     intro a hA
     rcases Bool.eq_false_or_eq_true (decide (((i : Nat) : Int) < ((N : Nat) : Int))) with hb43 | hb43
     · have hb43' := of_decide_eq_true hb43
       refine seq_do (v := .bool true) hA rfl rfl rfl (d_bin rfl rfl (fun w => (bin_lss w).trans (by rw [hb43]))) ?_
       intro a hA
       refine seq_end ?_
       refine hK42 _ _ ?_
       refine wp_cond_true (hA.ev rfl) ?_
       refine wp_skip ?_
       refine hK41 _ _ ?_
       refine wp_seq_k (fun K44 hK44 => ?_)
       refine wp_block ?_
       refine wp_seq_k (fun K45 hK45 => ?_)
       refine wp_seq_k (fun K46 hK46 => ?_)
       refine wp_region_lit ?_
       refine seq_do hA rfl rfl rfl (d_loadS hS SmG_isS_26 rfl 2 rfl (cs := [.bool (rb u.num), .slice a1 ((words u.num.natAbs).length) ac1, .slice a2 ((words u.den).length) ac2, .bool (rb v.num), .slice a3 ((words v.num.natAbs).length) ac3, .slice a4 ((words v.den).length) ac4]) rfl rfl) ?_
       intro a hA
       refine seq_call hA rfl rfl rfl (enters_func  rfl rfl (fun w => by kernel_rfl)) (rrealQ_any (show Nm _ (Q6.rat u v) a1 ac1 a2 ac2 a3 ac3 a4 ac4 from ⟨⟨(hS.rd 9 rfl), ha.s1.nil, ha.s1.cap⟩, ⟨(hS.rd 8 rfl), ha.s2.nil, ha.s2.cap⟩, ⟨(hS.rd 7 rfl), ha.s3.nil, ha.s3.cap⟩, ⟨(hS.rd 6 rfl), ha.s4.nil, ha.s4.cap⟩⟩) (lenQ_rat hu hv) k2) ?_
       rintro _ w48 ⟨rfl, hb47⟩
       replace hS := hS.call hb47
       refine ⟨_, rfl, ?_⟩
       intro a hA
       refine seq_end ?_
       refine hK46 _ _ ?_
       refine wp_cond_true (hA.ev rfl) ?_
       have hJ68 : ∀ a w1, (∃ (J60 : Option Addr) (J61 : Nat) (J62 : Option Addr) (J63 : Nat), Sl a 87 [(0, .agg #[.bool (rb u.num), .slice a1 ((words u.num.natAbs).length) ac1, .slice a2 ((words u.den).length) ac2, .bool (rb v.num), .slice a3 ((words v.num.natAbs).length) ac3, .slice a4 ((words v.den).length) ac4]), (1, .int .i64 n), (2, .pointer (some ⟨g2, 0, none⟩)), (4, .pointer (some ⟨g4, 0, none⟩)), (6, .int .i64 (((N : Nat) : Int))), (7, .pointer (some ⟨g33, 0, none⟩)), (8, .int .i64 (((i : Nat) : Int))), (9, .agg #[.bool (rb u.num), .slice a1 ((words u.num.natAbs).length) ac1, .slice a2 ((words u.den).length) ac2, .bool (rb v.num), .slice a3 ((words v.num.natAbs).length) ac3, .slice a4 ((words v.den).length) ac4]), (10, .bool true), (11, .bool false), (13, .int .i64 n), (14, .bool false), (15, .bool false), (16, .int .i64 n), (17, .bool false), (18, .bool false), (20, .int .i64 n), (21, .bool false), (28, .bool false), (30, .int .i64 n), (31, .int .i64 n), (35, .agg #[.bool ((rb (1 : Rat).num)), .slice p29_1 ((words (1 : Rat).num.natAbs).length) p29_c1, .slice p29_2 ((words (1 : Rat).den).length) p29_c2, .bool false, .slice p29_3 0 p29_c3, .slice p29_4 1 p29_c4]), (36, .int .i64 (((i : Nat) : Int))), (37, .int .i64 (((N : Nat) : Int))), (38, .bool true), (41, .agg #[.bool (rb u.num), .slice a1 ((words u.num.natAbs).length) ac1, .slice a2 ((words u.den).length) ac2, .bool (rb v.num), .slice a3 ((words v.num.natAbs).length) ac3, .slice a4 ((words v.den).length) ac4]), (42, .bool true)] ∧ St w w1 [(g33, [.bool ((rb (P * u).num)), .slice J60 ((words (P * u).num.natAbs).length) J61, .slice J62 ((words (P * u).den).length) J63, .bool false, .slice p29_3 0 p29_c3, .slice p29_4 1 p29_c4]), (g4, [.bool false, .slice none 0 0, .slice none 0 0, .bool false, .slice none 0 0, .slice none 0 0]), (g2, [.bool (rb u.num), .slice a1 ((words u.num.natAbs).length) ac1, .slice a2 ((words u.den).length) ac2, .bool (rb v.num), .slice a3 ((words v.num.natAbs).length) ac3, .slice a4 ((words v.den).length) ac4])] [(J62, words (P * u).den), (J60, words (P * u).num.natAbs), (po1, words P.num.natAbs), (po2, words P.den), (p29_4, [1]), (p29_3, []), (p29_2, words (1 : Rat).den), (p29_1, words (1 : Rat).num.natAbs), (a4, words v.den), (a3, words v.num.natAbs), (a2, words u.den), (a1, words u.num.natAbs)] [] ∧ (J62 = none → J63 = 0) ∧ (words (P * u).den : List Nat).length ≤ J63 ∧ (J60 = none → J61 = 0) ∧ (words (P * u).num.natAbs : List Nat).length ≤ J61) → K45 a w1 := by
         clear hA hS
         rintro a w69 ⟨J60, J61, J62, J63, hA, hS, hn64, hc65, hn66, hc67⟩
         refine hK45 _ _ ?_
         refine wp_seq_k (fun K70 hK70 => ?_)
         refine wp_region_lit ?_
         refine seq_do hA rfl rfl rfl (d_loadS hS SmG_isS_26 rfl 0 rfl (cs := [.bool ((rb (P * u).num)), .slice J60 ((words (P * u).num.natAbs).length) J61, .slice J62 ((words (P * u).den).length) J63, .bool false, .slice p29_3 0 p29_c3, .slice p29_4 1 p29_c4]) rfl rfl) ?_
         intro a hA
         rcases Bool.eq_false_or_eq_true (decide (¬ (fitR (P * u) ∧ fitR 0))) with hb71 | hb71
         · have hb71' := of_decide_eq_true hb71
           refine seq_call hA rfl rfl rfl (enters_func  rfl rfl (fun w => by kernel_rfl)) (rlarge0_any (show Nm _ (Q6.real (P * u)) J60 J61 J62 J63 p29_3 p29_c3 p29_4 p29_c4 from ⟨⟨(hS.rd 1 rfl), hn66, hc67⟩, ⟨(hS.rd 0 rfl), hn64, hc65⟩, ⟨(hS.rd 5 rfl), hn30.s3.nil, hn30.s3.cap⟩, ⟨(hS.rd 4 rfl), hn30.s4.nil, hn30.s4.cap⟩⟩) LPu hb71) ?_
           rintro _ w73 ⟨rfl, hb72⟩
           replace hS := hS.call hb72
           refine ⟨_, rfl, ?_⟩
           intro a hA
           refine seq_end ?_
           refine hK70 _ _ ?_
           refine wp_cond_true (hA.ev rfl) ?_
           refine wp_seq_k (fun K74 hK74 => ?_)
           refine wp_region_lit ?_
           refine seq_do (v := .agg #[.bool false, .slice none 0 0, .slice none 0 0, .bool false, .slice none 0 0, .slice none 0 0]) hA rfl rfl rfl (d_build rfl (fun w => by kernel_rfl)) ?_
           intro a hA
           refine seq_store (us := [.bool false, .slice none 0 0, .slice none 0 0, .bool false, .slice none 0 0, .slice none 0 0]) hA hS rfl rfl (sets_store rfl rfl rfl (by kernel_rfl) hS 1 rfl rfl rfl) 1 rfl rfl rfl rfl ?_
           intro w75 hS
           refine seq_do hA rfl rfl rfl (d_assign rfl) ?_
           intro a hA
           refine seq_end ?_
           refine hK74 _ _ ?_
           refine wp_ret ?_
           refine hret _ _ ?_
           refine ends (v := .tuple #[.agg #[.bool false, .slice none 0 0, .slice none 0 0, .bool false, .slice none 0 0, .slice none 0 0], .int .i64 4]) hA rfl (.cons (res_cell hS SmG_isS_26 rfl 1 rfl (cs := [.bool false, .slice none 0 0, .slice none 0 0, .bool false, .slice none 0 0, .slice none 0 0]) rfl rfl) (.cons (res_tmp rfl) .nil)) rfl ?_
           rw [ex_stop hu hv hN h1 h2 hz (pwB_stop (k := i + 1) (by omega) (by have h7 := of_decide_eq_true hb71; rw [hs9]; exact h7))]
           exact ⟨none, 0, none, 0, none, 0, none, 0, rfl, ⟨(Sc.none _), (Sc.none _), (Sc.none _), (Sc.none _)⟩, hS.bel⟩
         · have hb71' := of_decide_eq_false hb71
           refine seq_call hA rfl rfl rfl (enters_func  rfl rfl (fun w => by kernel_rfl)) (rlarge0_any (show Nm _ (Q6.real (P * u)) J60 J61 J62 J63 p29_3 p29_c3 p29_4 p29_c4 from ⟨⟨(hS.rd 1 rfl), hn66, hc67⟩, ⟨(hS.rd 0 rfl), hn64, hc65⟩, ⟨(hS.rd 5 rfl), hn30.s3.nil, hn30.s3.cap⟩, ⟨(hS.rd 4 rfl), hn30.s4.nil, hn30.s4.cap⟩⟩) LPu hb71) ?_
           rintro _ w77 ⟨rfl, hb76⟩
           replace hS := hS.call hb76
           refine ⟨_, rfl, ?_⟩
           intro a hA
           refine seq_end ?_
           refine hK70 _ _ ?_
           refine wp_cond_false (hA.ev rfl) ?_
           refine wp_skip ?_
           refine hK44 _ _ ?_
           refine wp_region_lit ?_
           refine seq_do hA rfl rfl rfl (d_move rfl) ?_
           intro a hA
           refine seq_do (v := .int .i64 (((i + 1 : Nat) : Int))) hA rfl rfl rfl (d_bin rfl rfl (fun w => (bin_add (i64In (by omega) (by omega)) w).trans (by rw [show (((i : Nat) : Int) + 1 : Int) = ((i + 1 : Nat) : Int) from by omega]))) ?_
           intro a hA
           refine seq_do hA rfl rfl rfl (d_assign rfl) ?_
           intro a hA
           refine seq_end ?_
           refine hK39 _ _ _ (by omega) ⟨i + 1, (P * u), J60, J61, J62, J63, rfl, ⟨by omega, hs9, pwB_step hB9 (by rw [hs9]; exact (Decidable.not_not.1 (of_decide_eq_false hb71)).1) (by rw [hs9]; exact fit_zero), fit_lenR (Decidable.not_not.1 (of_decide_eq_false hb71)).1, hPu, hsg9, ⟨hn66, hc67⟩, ⟨hn64, hc65⟩⟩, hA.keep _ ⟨rfl, rfl, rfl, rfl, rfl, rfl, rfl, rfl, rfl, rfl, rfl, rfl, rfl, rfl, rfl, rfl, rfl, rfl, rfl, rfl, rfl, rfl, trivial⟩, ((hS.pickR [(J60, words (P * u).num.natAbs), (J62, words (P * u).den), (p29_4, [1]), (p29_3, []), (p29_2, words (1 : Rat).den), (p29_1, words (1 : Rat).num.natAbs), (a4, words v.den), (a3, words v.num.natAbs), (a2, words u.den), (a1, words u.num.natAbs)] ⟨⟨1, rfl⟩, ⟨⟨0, rfl⟩, ⟨⟨4, rfl⟩, ⟨⟨5, rfl⟩, ⟨⟨6, rfl⟩, ⟨⟨7, rfl⟩, ⟨⟨8, rfl⟩, ⟨⟨9, rfl⟩, ⟨⟨10, rfl⟩, ⟨⟨11, rfl⟩, trivial⟩⟩⟩⟩⟩⟩⟩⟩⟩⟩).subL _ (.refl _))⟩
       refine wp_draw (S := fun w1 => St w w1 [(g4, [.bool false, .slice none 0 0, .slice none 0 0, .bool false, .slice none 0 0, .slice none 0 0]), (g2, [.bool (rb u.num), .slice a1 ((words u.num.natAbs).length) ac1, .slice a2 ((words u.den).length) ac2, .bool (rb v.num), .slice a3 ((words v.num.natAbs).length) ac3, .slice a4 ((words v.den).length) ac4])] [(po1, words P.num.natAbs), (po2, words P.den), (p29_4, [1]), (p29_3, []), (p29_2, words (1 : Rat).den), (p29_1, words (1 : Rat).num.natAbs), (a4, words v.den), (a3, words v.num.natAbs), (a2, words u.den), (a1, words u.num.natAbs)] []) (by kernel_rfl) ?_
       replace hS := hS.drew
       refine any_tk (v := .pointer (some ⟨g33, 0, none⟩)) hA 0 rfl rfl rfl rfl hP (hS.partD (.cons _ (.cons_cons _ (.cons_cons _ .slnil))) 0 rfl (.refl _)) (fun w1 hS => d_field SmG_fld_26_0 rfl rfl) ?_
       intro a hA
       refine any_tk (v := .pointer (some ⟨g33, 0, none⟩)) hA 1 rfl rfl rfl rfl hP (hS.partD (.cons _ (.cons_cons _ (.cons_cons _ .slnil))) 0 rfl (.refl _)) (fun w1 hS => d_field SmG_fld_24_0 rfl rfl) ?_
       intro a hA
       refine any_tk (v := .pointer (some ⟨g2, 0, none⟩)) hA 3 rfl rfl rfl rfl hP (hS.partD (.cons _ (.cons_cons _ (.cons_cons _ .slnil))) 0 rfl (.refl _)) (fun w1 hS => d_field SmG_fld_26_0 rfl rfl) ?_
       intro a hA
       refine any_tk (v := .pointer (some ⟨g2, 0, none⟩)) hA 4 rfl rfl rfl rfl hP (hS.partD (.cons _ (.cons_cons _ (.cons_cons _ .slnil))) 0 rfl (.refl _)) (fun w1 hS => d_field SmG_fld_24_0 rfl rfl) ?_
       intro a hA
       refine any_tk hA 5 rfl rfl rfl rfl hP (hS.partD (.cons _ (.cons_cons _ (.cons_cons _ .slnil))) 0 rfl (.refl _)) (fun w1 hS => d_load1 hS SmG_is1_4 rfl 1 rfl rfl) ?_
       intro a hA
       refine any_tk (v := .pointer (some ⟨g33, 0, none⟩)) hA 14 rfl rfl rfl rfl hP (hS.partD (.cons _ (.cons_cons _ (.cons_cons _ .slnil))) 0 rfl (.refl _)) (fun w1 hS => d_field SmG_fld_26_0 rfl rfl) ?_
       intro a hA
       refine any_tk (v := .pointer (some ⟨g33, 1, none⟩)) hA 15 rfl rfl rfl rfl hP (hS.partD (.cons _ (.cons_cons _ (.cons_cons _ .slnil))) 0 rfl (.refl _)) (fun w1 hS => d_field SmG_fld_24_1 rfl rfl) ?_
       intro a hA
       refine any_tk (v := .pointer (some ⟨g2, 0, none⟩)) hA 17 rfl rfl rfl rfl hP (hS.partD (.cons _ (.cons_cons _ (.cons_cons _ .slnil))) 0 rfl (.refl _)) (fun w1 hS => d_field SmG_fld_26_0 rfl rfl) ?_
       intro a hA
       refine any_tk (v := .pointer (some ⟨g2, 1, none⟩)) hA 18 rfl rfl rfl rfl hP (hS.partD (.cons _ (.cons_cons _ (.cons_cons _ .slnil))) 0 rfl (.refl _)) (fun w1 hS => d_field SmG_fld_24_1 rfl rfl) ?_
       intro a hA
       refine any_tk hA 19 rfl rfl rfl rfl hP (hS.partD (.cons _ (.cons_cons _ (.cons_cons _ .slnil))) 0 rfl (.refl _)) (fun w1 hS => d_load1 hS SmG_is1_22 rfl 1 rfl rfl) ?_
       intro a hA
       refine any_tk (v := .pointer (some ⟨g33, 0, none⟩)) hA 21 rfl rfl rfl rfl hP (hS.partD (.cons _ (.cons_cons _ (.cons_cons _ .slnil))) 0 rfl (.refl _)) (fun w1 hS => d_field SmG_fld_26_0 rfl rfl) ?_
       intro a hA
       refine any_tk (v := .pointer (some ⟨g33, 2, none⟩)) hA 22 rfl rfl rfl rfl hP (hS.partD (.cons _ (.cons_cons _ (.cons_cons _ .slnil))) 0 rfl (.refl _)) (fun w1 hS => d_field SmG_fld_24_2 rfl rfl) ?_
       intro a hA
       refine any_tk (v := .pointer (some ⟨g2, 0, none⟩)) hA 24 rfl rfl rfl rfl hP (hS.partD (.cons _ (.cons_cons _ (.cons_cons _ .slnil))) 0 rfl (.refl _)) (fun w1 hS => d_field SmG_fld_26_0 rfl rfl) ?_
       intro a hA
       refine any_tk (v := .pointer (some ⟨g2, 2, none⟩)) hA 25 rfl rfl rfl rfl hP (hS.partD (.cons _ (.cons_cons _ (.cons_cons _ .slnil))) 0 rfl (.refl _)) (fun w1 hS => d_field SmG_fld_24_2 rfl rfl) ?_
       intro a hA
       refine any_tk hA 26 rfl rfl rfl rfl hP (hS.partD (.cons _ (.cons_cons _ (.cons_cons _ .slnil))) 0 rfl (.refl _)) (fun w1 hS => d_load1 hS SmG_is1_22 rfl 1 rfl rfl) ?_
       intro a hA
       refine any_many (rs := [2, 16, 23]) (by kernel_rfl) (by simp) ⟨?_, ?_, ?_, trivial⟩
       · refine op_do hA 2 rfl rfl rfl rfl (d_load1 hS SmG_is1_4 rfl 0 rfl rfl) (hS.partD (.cons _ (.cons_cons _ (.cons_cons _ .slnil))) 0 rfl (.refl _)) ?_
         intro a hA
         refine any_tk (v := .bool false) hA 6 rfl rfl rfl rfl hP (hS.partD (.cons _ (.cons_cons _ (.cons_cons _ .slnil))) 0 rfl (.refl _)) (fun w1 hS => d_bin rfl rfl (fun w => ((bin_neqB Tryz.underlying4) w).trans (by rw [show (!((rb P.num) == rb u.num)) = false from (by rw [hPs, hsu]; rfl)]))) ?_
         intro a hA
         refine any_tk hA 7 rfl rfl rfl rfl hP (hS.partD (.cons _ (.cons_cons _ (.cons_cons _ .slnil))) 0 rfl (.refl _)) (fun w1 hS => d_move rfl) ?_
         intro a hA
         refine any_sk hA 8 rfl rfl rfl rfl hP (hS.partD (.cons _ (.cons_cons _ (.cons_cons _ .slnil))) 0 rfl (.refl _)) ?_
         intro a hA
         refine any_sk hA 9 rfl rfl rfl rfl hP (hS.partD (.cons _ (.cons_cons _ (.cons_cons _ .slnil))) 0 rfl (.refl _)) ?_
         intro a hA
         refine any_sk hA 10 rfl rfl rfl rfl hP (hS.partD (.cons _ (.cons_cons _ (.cons_cons _ .slnil))) 0 rfl (.refl _)) ?_
         intro a hA
         refine any_sk hA 11 rfl rfl rfl rfl hP (hS.partD (.cons _ (.cons_cons _ (.cons_cons _ .slnil))) 0 rfl (.refl _)) ?_
         intro a hA
         refine any_sk hA 12 rfl rfl rfl rfl hP (hS.partD (.cons _ (.cons_cons _ (.cons_cons _ .slnil))) 0 rfl (.refl _)) ?_
         intro a hA
         refine any_tk (v := .bool ((rb (P * u).num))) hA 13 rfl rfl rfl rfl hP (hS.partD (.cons _ (.cons_cons _ (.cons_cons _ .slnil))) 0 rfl (.refl _)) (fun w1 hS => d_pick rfl rfl rfl (by rw [hsg9]; rfl)) ?_
         intro a hA
         refine any_many (rs := [16, 23]) (by kernel_rfl) (by simp) ⟨?_, ?_, trivial⟩
         · refine op_do hA 16 rfl rfl rfl rfl (d_load1 hS SmG_is1_22 rfl 0 rfl rfl) (hS.partD (.cons _ (.cons_cons _ (.cons_cons _ .slnil))) 0 rfl (.refl _)) ?_
           intro a hA
           refine any_many (rs := [20, 23]) (by kernel_rfl) (by simp) ⟨?_, ?_, trivial⟩
           · refine op_call hA 20 rfl rfl rfl rfl (enters_func  rfl rfl (fun w => by kernel_rfl)) (rtimes_as hn9 _ _ (hS.rd 0 rfl) (hS.rd 9 rfl) (by omega) (by omega)) ?_
             rintro _ w82 ⟨ro78, rc79, rfl, ho80, hb81⟩
             replace hS := hS.call hb81
             replace hS := hS.addR ho80.rd
             refine ⟨_, rfl, (hS.partD (.cons _ (.cons_cons _ (.cons_cons _ .slnil))) 1 rfl (.refl _)), ?_⟩
             intro a hA
             refine any_one (by kernel_rfl) (op_do hA 23 rfl rfl rfl rfl (d_load1 hS SmG_is1_22 rfl 0 rfl rfl) (hS.partD (.cons _ (.cons_cons _ (.cons_cons _ .slnil))) 1 rfl (.refl _)) ?_)
             intro a hA
             refine any_one (by kernel_rfl) (op_call hA 27 rfl rfl rfl rfl (enters_func  rfl rfl (fun w => by kernel_rfl)) (rtimes_as hd9 _ _ (hS.rd 2 rfl) (hS.rd 9 rfl) (by omega) (by omega)) ?_)
             rintro _ w87 ⟨ro83, rc84, rfl, ho85, hb86⟩
             replace hS := hS.call hb86
             replace hS := hS.addR ho85.rd
             refine ⟨_, rfl, (hS.partD (.cons _ (.cons_cons _ (.cons_cons _ .slnil))) 2 rfl (.refl _)), ?_⟩
             intro a hA
             refine any_tk (v := .agg #[.bool ((rb (P * u).num)), .slice ro78 ((words (P * u).num.natAbs).length) rc79, .slice ro83 ((words (P * u).den).length) rc84]) hA 28 rfl rfl rfl rfl hP (hS.partD (.cons _ (.cons_cons _ (.cons_cons _ .slnil))) 2 rfl (.refl _)) (fun w1 hS => d_build rfl (fun w => by kernel_rfl)) ?_
             intro a hA
             refine any_tk (v := .pointer (some ⟨g33, 0, none⟩)) hA 29 rfl rfl rfl rfl hP (hS.partD (.cons _ (.cons_cons _ (.cons_cons _ .slnil))) 2 rfl (.refl _)) (fun w1 hS => d_field SmG_fld_26_0 rfl rfl) ?_
             intro a hA
             refine any_one (by kernel_rfl) (op_store (us := [.bool ((rb (P * u).num)), .slice ro78 ((words (P * u).num.natAbs).length) rc79, .slice ro83 ((words (P * u).den).length) rc84, .bool false, .slice p29_3 0 p29_c3, .slice p29_4 1 p29_c4]) hA hS 30 rfl rfl rfl (sets_store rfl rfl rfl (by kernel_rfl) hS 0 rfl rfl rfl) 0 rfl rfl rfl rfl ?_)
             intro w88 hS
             refine ⟨(hS.partD (.cons _ (.cons_cons _ (.cons_cons _ .slnil))) 2 rfl (.refl _)), ?_⟩
             refine any_end (by kernel_rfl) ?_
             refine hJ68 _ _ ⟨ro78, rc79, ro83, rc84, hA.keep _ ⟨rfl, rfl, rfl, rfl, rfl, rfl, rfl, rfl, rfl, rfl, rfl, rfl, rfl, rfl, rfl, rfl, rfl, rfl, rfl, rfl, rfl, rfl, rfl, rfl, rfl, rfl, rfl, trivial⟩, (St.pickRL hS ⟨⟨0, rfl⟩, ⟨⟨1, rfl⟩, ⟨⟨2, rfl⟩, ⟨⟨3, rfl⟩, ⟨⟨4, rfl⟩, ⟨⟨5, rfl⟩, ⟨⟨6, rfl⟩, ⟨⟨7, rfl⟩, ⟨⟨8, rfl⟩, ⟨⟨9, rfl⟩, ⟨⟨10, rfl⟩, ⟨⟨11, rfl⟩, trivial⟩⟩⟩⟩⟩⟩⟩⟩⟩⟩⟩⟩ [0, 1, 2] rfl (by decide)), ho85.nocap, ho85.caps, ho80.nocap, ho80.caps⟩
           · refine op_do hA 23 rfl rfl rfl rfl (d_load1 hS SmG_is1_22 rfl 0 rfl rfl) (hS.partD (.cons _ (.cons_cons _ (.cons_cons _ .slnil))) 0 rfl (.refl _)) ?_
             intro a hA
             refine any_one (by kernel_rfl) (op_call hA 20 rfl rfl rfl rfl (enters_func  rfl rfl (fun w => by kernel_rfl)) (rtimes_as hn9 _ _ (hS.rd 0 rfl) (hS.rd 9 rfl) (by omega) (by omega)) ?_)
             rintro _ w93 ⟨ro89, rc90, rfl, ho91, hb92⟩
             replace hS := hS.call hb92
             replace hS := hS.addR ho91.rd
             refine ⟨_, rfl, (hS.partD (.cons _ (.cons_cons _ (.cons_cons _ .slnil))) 1 rfl (.refl _)), ?_⟩
             intro a hA
             refine any_one (by kernel_rfl) (op_call hA 27 rfl rfl rfl rfl (enters_func  rfl rfl (fun w => by kernel_rfl)) (rtimes_as hd9 _ _ (hS.rd 2 rfl) (hS.rd 9 rfl) (by omega) (by omega)) ?_)
             rintro _ w98 ⟨ro94, rc95, rfl, ho96, hb97⟩
             replace hS := hS.call hb97
             replace hS := hS.addR ho96.rd
             refine ⟨_, rfl, (hS.partD (.cons _ (.cons_cons _ (.cons_cons _ .slnil))) 2 rfl (.refl _)), ?_⟩
             intro a hA
             refine any_tk (v := .agg #[.bool ((rb (P * u).num)), .slice ro89 ((words (P * u).num.natAbs).length) rc90, .slice ro94 ((words (P * u).den).length) rc95]) hA 28 rfl rfl rfl rfl hP (hS.partD (.cons _ (.cons_cons _ (.cons_cons _ .slnil))) 2 rfl (.refl _)) (fun w1 hS => d_build rfl (fun w => by kernel_rfl)) ?_
             intro a hA
             refine any_tk (v := .pointer (some ⟨g33, 0, none⟩)) hA 29 rfl rfl rfl rfl hP (hS.partD (.cons _ (.cons_cons _ (.cons_cons _ .slnil))) 2 rfl (.refl _)) (fun w1 hS => d_field SmG_fld_26_0 rfl rfl) ?_
             intro a hA
             refine any_one (by kernel_rfl) (op_store (us := [.bool ((rb (P * u).num)), .slice ro89 ((words (P * u).num.natAbs).length) rc90, .slice ro94 ((words (P * u).den).length) rc95, .bool false, .slice p29_3 0 p29_c3, .slice p29_4 1 p29_c4]) hA hS 30 rfl rfl rfl (sets_store rfl rfl rfl (by kernel_rfl) hS 0 rfl rfl rfl) 0 rfl rfl rfl rfl ?_)
             intro w99 hS
             refine ⟨(hS.partD (.cons _ (.cons_cons _ (.cons_cons _ .slnil))) 2 rfl (.refl _)), ?_⟩
             refine any_end (by kernel_rfl) ?_
             refine hJ68 _ _ ⟨ro89, rc90, ro94, rc95, hA.keep _ ⟨rfl, rfl, rfl, rfl, rfl, rfl, rfl, rfl, rfl, rfl, rfl, rfl, rfl, rfl, rfl, rfl, rfl, rfl, rfl, rfl, rfl, rfl, rfl, rfl, rfl, rfl, rfl, trivial⟩, (St.pickRL hS ⟨⟨0, rfl⟩, ⟨⟨1, rfl⟩, ⟨⟨2, rfl⟩, ⟨⟨3, rfl⟩, ⟨⟨4, rfl⟩, ⟨⟨5, rfl⟩, ⟨⟨6, rfl⟩, ⟨⟨7, rfl⟩, ⟨⟨8, rfl⟩, ⟨⟨9, rfl⟩, ⟨⟨10, rfl⟩, ⟨⟨11, rfl⟩, trivial⟩⟩⟩⟩⟩⟩⟩⟩⟩⟩⟩⟩ [0, 1, 2] rfl (by decide)), ho96.nocap, ho96.caps, ho91.nocap, ho91.caps⟩
         · refine op_do hA 23 rfl rfl rfl rfl (d_load1 hS SmG_is1_22 rfl 0 rfl rfl) (hS.partD (.cons _ (.cons_cons _ (.cons_cons _ .slnil))) 0 rfl (.refl _)) ?_
           intro a hA
           refine any_one (by kernel_rfl) (op_do hA 16 rfl rfl rfl rfl (d_load1 hS SmG_is1_22 rfl 0 rfl rfl) (hS.partD (.cons _ (.cons_cons _ (.cons_cons _ .slnil))) 0 rfl (.refl _)) ?_)
           intro a hA
           refine any_one (by kernel_rfl) (op_call hA 20 rfl rfl rfl rfl (enters_func  rfl rfl (fun w => by kernel_rfl)) (rtimes_as hn9 _ _ (hS.rd 0 rfl) (hS.rd 9 rfl) (by omega) (by omega)) ?_)
           rintro _ w104 ⟨ro100, rc101, rfl, ho102, hb103⟩
           replace hS := hS.call hb103
           replace hS := hS.addR ho102.rd
           refine ⟨_, rfl, (hS.partD (.cons _ (.cons_cons _ (.cons_cons _ .slnil))) 1 rfl (.refl _)), ?_⟩
           intro a hA
           refine any_one (by kernel_rfl) (op_call hA 27 rfl rfl rfl rfl (enters_func  rfl rfl (fun w => by kernel_rfl)) (rtimes_as hd9 _ _ (hS.rd 2 rfl) (hS.rd 9 rfl) (by omega) (by omega)) ?_)
           rintro _ w109 ⟨ro105, rc106, rfl, ho107, hb108⟩
           replace hS := hS.call hb108
           replace hS := hS.addR ho107.rd
           refine ⟨_, rfl, (hS.partD (.cons _ (.cons_cons _ (.cons_cons _ .slnil))) 2 rfl (.refl _)), ?_⟩
           intro a hA
           refine any_tk (v := .agg #[.bool ((rb (P * u).num)), .slice ro100 ((words (P * u).num.natAbs).length) rc101, .slice ro105 ((words (P * u).den).length) rc106]) hA 28 rfl rfl rfl rfl hP (hS.partD (.cons _ (.cons_cons _ (.cons_cons _ .slnil))) 2 rfl (.refl _)) (fun w1 hS => d_build rfl (fun w => by kernel_rfl)) ?_
           intro a hA
           refine any_tk (v := .pointer (some ⟨g33, 0, none⟩)) hA 29 rfl rfl rfl rfl hP (hS.partD (.cons _ (.cons_cons _ (.cons_cons _ .slnil))) 2 rfl (.refl _)) (fun w1 hS => d_field SmG_fld_26_0 rfl rfl) ?_
           intro a hA
           refine any_one (by kernel_rfl) (op_store (us := [.bool ((rb (P * u).num)), .slice ro100 ((words (P * u).num.natAbs).length) rc101, .slice ro105 ((words (P * u).den).length) rc106, .bool false, .slice p29_3 0 p29_c3, .slice p29_4 1 p29_c4]) hA hS 30 rfl rfl rfl (sets_store rfl rfl rfl (by kernel_rfl) hS 0 rfl rfl rfl) 0 rfl rfl rfl rfl ?_)
           intro w110 hS
           refine ⟨(hS.partD (.cons _ (.cons_cons _ (.cons_cons _ .slnil))) 2 rfl (.refl _)), ?_⟩
           refine any_end (by kernel_rfl) ?_
           refine hJ68 _ _ ⟨ro100, rc101, ro105, rc106, hA.keep _ ⟨rfl, rfl, rfl, rfl, rfl, rfl, rfl, rfl, rfl, rfl, rfl, rfl, rfl, rfl, rfl, rfl, rfl, rfl, rfl, rfl, rfl, rfl, rfl, rfl, rfl, rfl, rfl, trivial⟩, (St.pickRL hS ⟨⟨0, rfl⟩, ⟨⟨1, rfl⟩, ⟨⟨2, rfl⟩, ⟨⟨3, rfl⟩, ⟨⟨4, rfl⟩, ⟨⟨5, rfl⟩, ⟨⟨6, rfl⟩, ⟨⟨7, rfl⟩, ⟨⟨8, rfl⟩, ⟨⟨9, rfl⟩, ⟨⟨10, rfl⟩, ⟨⟨11, rfl⟩, trivial⟩⟩⟩⟩⟩⟩⟩⟩⟩⟩⟩⟩ [0, 1, 2] rfl (by decide)), ho107.nocap, ho107.caps, ho102.nocap, ho102.caps⟩
       · refine op_do hA 16 rfl rfl rfl rfl (d_load1 hS SmG_is1_22 rfl 0 rfl rfl) (hS.partD (.cons _ (.cons_cons _ (.cons_cons _ .slnil))) 0 rfl (.refl _)) ?_
         intro a hA
         refine any_many (rs := [2, 23]) (by kernel_rfl) (by simp) ⟨?_, ?_, trivial⟩
         · refine op_do hA 2 rfl rfl rfl rfl (d_load1 hS SmG_is1_4 rfl 0 rfl rfl) (hS.partD (.cons _ (.cons_cons _ (.cons_cons _ .slnil))) 0 rfl (.refl _)) ?_
           intro a hA
           refine any_tk (v := .bool false) hA 6 rfl rfl rfl rfl hP (hS.partD (.cons _ (.cons_cons _ (.cons_cons _ .slnil))) 0 rfl (.refl _)) (fun w1 hS => d_bin rfl rfl (fun w => ((bin_neqB Tryz.underlying4) w).trans (by rw [show (!((rb P.num) == rb u.num)) = false from (by rw [hPs, hsu]; rfl)]))) ?_
           intro a hA
           refine any_tk hA 7 rfl rfl rfl rfl hP (hS.partD (.cons _ (.cons_cons _ (.cons_cons _ .slnil))) 0 rfl (.refl _)) (fun w1 hS => d_move rfl) ?_
           intro a hA
           refine any_sk hA 8 rfl rfl rfl rfl hP (hS.partD (.cons _ (.cons_cons _ (.cons_cons _ .slnil))) 0 rfl (.refl _)) ?_
           intro a hA
           refine any_sk hA 9 rfl rfl rfl rfl hP (hS.partD (.cons _ (.cons_cons _ (.cons_cons _ .slnil))) 0 rfl (.refl _)) ?_
           intro a hA
           refine any_sk hA 10 rfl rfl rfl rfl hP (hS.partD (.cons _ (.cons_cons _ (.cons_cons _ .slnil))) 0 rfl (.refl _)) ?_
           intro a hA
           refine any_sk hA 11 rfl rfl rfl rfl hP (hS.partD (.cons _ (.cons_cons _ (.cons_cons _ .slnil))) 0 rfl (.refl _)) ?_
           intro a hA
           refine any_sk hA 12 rfl rfl rfl rfl hP (hS.partD (.cons _ (.cons_cons _ (.cons_cons _ .slnil))) 0 rfl (.refl _)) ?_
           intro a hA
           refine any_tk (v := .bool ((rb (P * u).num))) hA 13 rfl rfl rfl rfl hP (hS.partD (.cons _ (.cons_cons _ (.cons_cons _ .slnil))) 0 rfl (.refl _)) (fun w1 hS => d_pick rfl rfl rfl (by rw [hsg9]; rfl)) ?_
           intro a hA
           refine any_many (rs := [20, 23]) (by kernel_rfl) (by simp) ⟨?_, ?_, trivial⟩
           · refine op_call hA 20 rfl rfl rfl rfl (enters_func  rfl rfl (fun w => by kernel_rfl)) (rtimes_as hn9 _ _ (hS.rd 0 rfl) (hS.rd 9 rfl) (by omega) (by omega)) ?_
             rintro _ w115 ⟨ro111, rc112, rfl, ho113, hb114⟩
             replace hS := hS.call hb114
             replace hS := hS.addR ho113.rd
             refine ⟨_, rfl, (hS.partD (.cons _ (.cons_cons _ (.cons_cons _ .slnil))) 1 rfl (.refl _)), ?_⟩
             intro a hA
             refine any_one (by kernel_rfl) (op_do hA 23 rfl rfl rfl rfl (d_load1 hS SmG_is1_22 rfl 0 rfl rfl) (hS.partD (.cons _ (.cons_cons _ (.cons_cons _ .slnil))) 1 rfl (.refl _)) ?_)
             intro a hA
             refine any_one (by kernel_rfl) (op_call hA 27 rfl rfl rfl rfl (enters_func  rfl rfl (fun w => by kernel_rfl)) (rtimes_as hd9 _ _ (hS.rd 2 rfl) (hS.rd 9 rfl) (by omega) (by omega)) ?_)
             rintro _ w120 ⟨ro116, rc117, rfl, ho118, hb119⟩
             replace hS := hS.call hb119
             replace hS := hS.addR ho118.rd
             refine ⟨_, rfl, (hS.partD (.cons _ (.cons_cons _ (.cons_cons _ .slnil))) 2 rfl (.refl _)), ?_⟩
             intro a hA
             refine any_tk (v := .agg #[.bool ((rb (P * u).num)), .slice ro111 ((words (P * u).num.natAbs).length) rc112, .slice ro116 ((words (P * u).den).length) rc117]) hA 28 rfl rfl rfl rfl hP (hS.partD (.cons _ (.cons_cons _ (.cons_cons _ .slnil))) 2 rfl (.refl _)) (fun w1 hS => d_build rfl (fun w => by kernel_rfl)) ?_
             intro a hA
             refine any_tk (v := .pointer (some ⟨g33, 0, none⟩)) hA 29 rfl rfl rfl rfl hP (hS.partD (.cons _ (.cons_cons _ (.cons_cons _ .slnil))) 2 rfl (.refl _)) (fun w1 hS => d_field SmG_fld_26_0 rfl rfl) ?_
             intro a hA
             refine any_one (by kernel_rfl) (op_store (us := [.bool ((rb (P * u).num)), .slice ro111 ((words (P * u).num.natAbs).length) rc112, .slice ro116 ((words (P * u).den).length) rc117, .bool false, .slice p29_3 0 p29_c3, .slice p29_4 1 p29_c4]) hA hS 30 rfl rfl rfl (sets_store rfl rfl rfl (by kernel_rfl) hS 0 rfl rfl rfl) 0 rfl rfl rfl rfl ?_)
             intro w121 hS
             refine ⟨(hS.partD (.cons _ (.cons_cons _ (.cons_cons _ .slnil))) 2 rfl (.refl _)), ?_⟩
             refine any_end (by kernel_rfl) ?_
             refine hJ68 _ _ ⟨ro111, rc112, ro116, rc117, hA.keep _ ⟨rfl, rfl, rfl, rfl, rfl, rfl, rfl, rfl, rfl, rfl, rfl, rfl, rfl, rfl, rfl, rfl, rfl, rfl, rfl, rfl, rfl, rfl, rfl, rfl, rfl, rfl, rfl, trivial⟩, (St.pickRL hS ⟨⟨0, rfl⟩, ⟨⟨1, rfl⟩, ⟨⟨2, rfl⟩, ⟨⟨3, rfl⟩, ⟨⟨4, rfl⟩, ⟨⟨5, rfl⟩, ⟨⟨6, rfl⟩, ⟨⟨7, rfl⟩, ⟨⟨8, rfl⟩, ⟨⟨9, rfl⟩, ⟨⟨10, rfl⟩, ⟨⟨11, rfl⟩, trivial⟩⟩⟩⟩⟩⟩⟩⟩⟩⟩⟩⟩ [0, 1, 2] rfl (by decide)), ho118.nocap, ho118.caps, ho113.nocap, ho113.caps⟩
           · refine op_do hA 23 rfl rfl rfl rfl (d_load1 hS SmG_is1_22 rfl 0 rfl rfl) (hS.partD (.cons _ (.cons_cons _ (.cons_cons _ .slnil))) 0 rfl (.refl _)) ?_
             intro a hA
             refine any_one (by kernel_rfl) (op_call hA 20 rfl rfl rfl rfl (enters_func  rfl rfl (fun w => by kernel_rfl)) (rtimes_as hn9 _ _ (hS.rd 0 rfl) (hS.rd 9 rfl) (by omega) (by omega)) ?_)
             rintro _ w126 ⟨ro122, rc123, rfl, ho124, hb125⟩
             replace hS := hS.call hb125
             replace hS := hS.addR ho124.rd
             refine ⟨_, rfl, (hS.partD (.cons _ (.cons_cons _ (.cons_cons _ .slnil))) 1 rfl (.refl _)), ?_⟩
             intro a hA
             refine any_one (by kernel_rfl) (op_call hA 27 rfl rfl rfl rfl (enters_func  rfl rfl (fun w => by kernel_rfl)) (rtimes_as hd9 _ _ (hS.rd 2 rfl) (hS.rd 9 rfl) (by omega) (by omega)) ?_)
             rintro _ w131 ⟨ro127, rc128, rfl, ho129, hb130⟩
             replace hS := hS.call hb130
             replace hS := hS.addR ho129.rd
             refine ⟨_, rfl, (hS.partD (.cons _ (.cons_cons _ (.cons_cons _ .slnil))) 2 rfl (.refl _)), ?_⟩
             intro a hA
             refine any_tk (v := .agg #[.bool ((rb (P * u).num)), .slice ro122 ((words (P * u).num.natAbs).length) rc123, .slice ro127 ((words (P * u).den).length) rc128]) hA 28 rfl rfl rfl rfl hP (hS.partD (.cons _ (.cons_cons _ (.cons_cons _ .slnil))) 2 rfl (.refl _)) (fun w1 hS => d_build rfl (fun w => by kernel_rfl)) ?_
             intro a hA
             refine any_tk (v := .pointer (some ⟨g33, 0, none⟩)) hA 29 rfl rfl rfl rfl hP (hS.partD (.cons _ (.cons_cons _ (.cons_cons _ .slnil))) 2 rfl (.refl _)) (fun w1 hS => d_field SmG_fld_26_0 rfl rfl) ?_
             intro a hA
             refine any_one (by kernel_rfl) (op_store (us := [.bool ((rb (P * u).num)), .slice ro122 ((words (P * u).num.natAbs).length) rc123, .slice ro127 ((words (P * u).den).length) rc128, .bool false, .slice p29_3 0 p29_c3, .slice p29_4 1 p29_c4]) hA hS 30 rfl rfl rfl (sets_store rfl rfl rfl (by kernel_rfl) hS 0 rfl rfl rfl) 0 rfl rfl rfl rfl ?_)
             intro w132 hS
             refine ⟨(hS.partD (.cons _ (.cons_cons _ (.cons_cons _ .slnil))) 2 rfl (.refl _)), ?_⟩
             refine any_end (by kernel_rfl) ?_
             refine hJ68 _ _ ⟨ro122, rc123, ro127, rc128, hA.keep _ ⟨rfl, rfl, rfl, rfl, rfl, rfl, rfl, rfl, rfl, rfl, rfl, rfl, rfl, rfl, rfl, rfl, rfl, rfl, rfl, rfl, rfl, rfl, rfl, rfl, rfl, rfl, rfl, trivial⟩, (St.pickRL hS ⟨⟨0, rfl⟩, ⟨⟨1, rfl⟩, ⟨⟨2, rfl⟩, ⟨⟨3, rfl⟩, ⟨⟨4, rfl⟩, ⟨⟨5, rfl⟩, ⟨⟨6, rfl⟩, ⟨⟨7, rfl⟩, ⟨⟨8, rfl⟩, ⟨⟨9, rfl⟩, ⟨⟨10, rfl⟩, ⟨⟨11, rfl⟩, trivial⟩⟩⟩⟩⟩⟩⟩⟩⟩⟩⟩⟩ [0, 1, 2] rfl (by decide)), ho129.nocap, ho129.caps, ho124.nocap, ho124.caps⟩
         · refine op_do hA 23 rfl rfl rfl rfl (d_load1 hS SmG_is1_22 rfl 0 rfl rfl) (hS.partD (.cons _ (.cons_cons _ (.cons_cons _ .slnil))) 0 rfl (.refl _)) ?_
           intro a hA
           refine any_one (by kernel_rfl) (op_do hA 2 rfl rfl rfl rfl (d_load1 hS SmG_is1_4 rfl 0 rfl rfl) (hS.partD (.cons _ (.cons_cons _ (.cons_cons _ .slnil))) 0 rfl (.refl _)) ?_)
           intro a hA
           refine any_tk (v := .bool false) hA 6 rfl rfl rfl rfl hP (hS.partD (.cons _ (.cons_cons _ (.cons_cons _ .slnil))) 0 rfl (.refl _)) (fun w1 hS => d_bin rfl rfl (fun w => ((bin_neqB Tryz.underlying4) w).trans (by rw [show (!((rb P.num) == rb u.num)) = false from (by rw [hPs, hsu]; rfl)]))) ?_
           intro a hA
           refine any_tk hA 7 rfl rfl rfl rfl hP (hS.partD (.cons _ (.cons_cons _ (.cons_cons _ .slnil))) 0 rfl (.refl _)) (fun w1 hS => d_move rfl) ?_
           intro a hA
           refine any_sk hA 8 rfl rfl rfl rfl hP (hS.partD (.cons _ (.cons_cons _ (.cons_cons _ .slnil))) 0 rfl (.refl _)) ?_
           intro a hA
           refine any_sk hA 9 rfl rfl rfl rfl hP (hS.partD (.cons _ (.cons_cons _ (.cons_cons _ .slnil))) 0 rfl (.refl _)) ?_
           intro a hA
           refine any_sk hA 10 rfl rfl rfl rfl hP (hS.partD (.cons _ (.cons_cons _ (.cons_cons _ .slnil))) 0 rfl (.refl _)) ?_
           intro a hA
           refine any_sk hA 11 rfl rfl rfl rfl hP (hS.partD (.cons _ (.cons_cons _ (.cons_cons _ .slnil))) 0 rfl (.refl _)) ?_
           intro a hA
           refine any_sk hA 12 rfl rfl rfl rfl hP (hS.partD (.cons _ (.cons_cons _ (.cons_cons _ .slnil))) 0 rfl (.refl _)) ?_
           intro a hA
           refine any_tk (v := .bool ((rb (P * u).num))) hA 13 rfl rfl rfl rfl hP (hS.partD (.cons _ (.cons_cons _ (.cons_cons _ .slnil))) 0 rfl (.refl _)) (fun w1 hS => d_pick rfl rfl rfl (by rw [hsg9]; rfl)) ?_
           intro a hA
           refine any_one (by kernel_rfl) (op_call hA 20 rfl rfl rfl rfl (enters_func  rfl rfl (fun w => by kernel_rfl)) (rtimes_as hn9 _ _ (hS.rd 0 rfl) (hS.rd 9 rfl) (by omega) (by omega)) ?_)
           rintro _ w137 ⟨ro133, rc134, rfl, ho135, hb136⟩
           replace hS := hS.call hb136
           replace hS := hS.addR ho135.rd
           refine ⟨_, rfl, (hS.partD (.cons _ (.cons_cons _ (.cons_cons _ .slnil))) 1 rfl (.refl _)), ?_⟩
           intro a hA
           refine any_one (by kernel_rfl) (op_call hA 27 rfl rfl rfl rfl (enters_func  rfl rfl (fun w => by kernel_rfl)) (rtimes_as hd9 _ _ (hS.rd 2 rfl) (hS.rd 9 rfl) (by omega) (by omega)) ?_)
           rintro _ w142 ⟨ro138, rc139, rfl, ho140, hb141⟩
           replace hS := hS.call hb141
           replace hS := hS.addR ho140.rd
           refine ⟨_, rfl, (hS.partD (.cons _ (.cons_cons _ (.cons_cons _ .slnil))) 2 rfl (.refl _)), ?_⟩
           intro a hA
           refine any_tk (v := .agg #[.bool ((rb (P * u).num)), .slice ro133 ((words (P * u).num.natAbs).length) rc134, .slice ro138 ((words (P * u).den).length) rc139]) hA 28 rfl rfl rfl rfl hP (hS.partD (.cons _ (.cons_cons _ (.cons_cons _ .slnil))) 2 rfl (.refl _)) (fun w1 hS => d_build rfl (fun w => by kernel_rfl)) ?_
           intro a hA
           refine any_tk (v := .pointer (some ⟨g33, 0, none⟩)) hA 29 rfl rfl rfl rfl hP (hS.partD (.cons _ (.cons_cons _ (.cons_cons _ .slnil))) 2 rfl (.refl _)) (fun w1 hS => d_field SmG_fld_26_0 rfl rfl) ?_
           intro a hA
           refine any_one (by kernel_rfl) (op_store (us := [.bool ((rb (P * u).num)), .slice ro133 ((words (P * u).num.natAbs).length) rc134, .slice ro138 ((words (P * u).den).length) rc139, .bool false, .slice p29_3 0 p29_c3, .slice p29_4 1 p29_c4]) hA hS 30 rfl rfl rfl (sets_store rfl rfl rfl (by kernel_rfl) hS 0 rfl rfl rfl) 0 rfl rfl rfl rfl ?_)
           intro w143 hS
           refine ⟨(hS.partD (.cons _ (.cons_cons _ (.cons_cons _ .slnil))) 2 rfl (.refl _)), ?_⟩
           refine any_end (by kernel_rfl) ?_
           refine hJ68 _ _ ⟨ro133, rc134, ro138, rc139, hA.keep _ ⟨rfl, rfl, rfl, rfl, rfl, rfl, rfl, rfl, rfl, rfl, rfl, rfl, rfl, rfl, rfl, rfl, rfl, rfl, rfl, rfl, rfl, rfl, rfl, rfl, rfl, rfl, rfl, trivial⟩, (St.pickRL hS ⟨⟨0, rfl⟩, ⟨⟨1, rfl⟩, ⟨⟨2, rfl⟩, ⟨⟨3, rfl⟩, ⟨⟨4, rfl⟩, ⟨⟨5, rfl⟩, ⟨⟨6, rfl⟩, ⟨⟨7, rfl⟩, ⟨⟨8, rfl⟩, ⟨⟨9, rfl⟩, ⟨⟨10, rfl⟩, ⟨⟨11, rfl⟩, trivial⟩⟩⟩⟩⟩⟩⟩⟩⟩⟩⟩⟩ [0, 1, 2] rfl (by decide)), ho140.nocap, ho140.caps, ho135.nocap, ho135.caps⟩
       · refine op_do hA 23 rfl rfl rfl rfl (d_load1 hS SmG_is1_22 rfl 0 rfl rfl) (hS.partD (.cons _ (.cons_cons _ (.cons_cons _ .slnil))) 0 rfl (.refl _)) ?_
         intro a hA
         refine any_many (rs := [2, 16]) (by kernel_rfl) (by simp) ⟨?_, ?_, trivial⟩
         · refine op_do hA 2 rfl rfl rfl rfl (d_load1 hS SmG_is1_4 rfl 0 rfl rfl) (hS.partD (.cons _ (.cons_cons _ (.cons_cons _ .slnil))) 0 rfl (.refl _)) ?_
           intro a hA
           refine any_tk (v := .bool false) hA 6 rfl rfl rfl rfl hP (hS.partD (.cons _ (.cons_cons _ (.cons_cons _ .slnil))) 0 rfl (.refl _)) (fun w1 hS => d_bin rfl rfl (fun w => ((bin_neqB Tryz.underlying4) w).trans (by rw [show (!((rb P.num) == rb u.num)) = false from (by rw [hPs, hsu]; rfl)]))) ?_
           intro a hA
           refine any_tk hA 7 rfl rfl rfl rfl hP (hS.partD (.cons _ (.cons_cons _ (.cons_cons _ .slnil))) 0 rfl (.refl _)) (fun w1 hS => d_move rfl) ?_
           intro a hA
           refine any_sk hA 8 rfl rfl rfl rfl hP (hS.partD (.cons _ (.cons_cons _ (.cons_cons _ .slnil))) 0 rfl (.refl _)) ?_
           intro a hA
           refine any_sk hA 9 rfl rfl rfl rfl hP (hS.partD (.cons _ (.cons_cons _ (.cons_cons _ .slnil))) 0 rfl (.refl _)) ?_
           intro a hA
           refine any_sk hA 10 rfl rfl rfl rfl hP (hS.partD (.cons _ (.cons_cons _ (.cons_cons _ .slnil))) 0 rfl (.refl _)) ?_
           intro a hA
           refine any_sk hA 11 rfl rfl rfl rfl hP (hS.partD (.cons _ (.cons_cons _ (.cons_cons _ .slnil))) 0 rfl (.refl _)) ?_
           intro a hA
           refine any_sk hA 12 rfl rfl rfl rfl hP (hS.partD (.cons _ (.cons_cons _ (.cons_cons _ .slnil))) 0 rfl (.refl _)) ?_
           intro a hA
           refine any_tk (v := .bool ((rb (P * u).num))) hA 13 rfl rfl rfl rfl hP (hS.partD (.cons _ (.cons_cons _ (.cons_cons _ .slnil))) 0 rfl (.refl _)) (fun w1 hS => d_pick rfl rfl rfl (by rw [hsg9]; rfl)) ?_
           intro a hA
           refine any_one (by kernel_rfl) (op_do hA 16 rfl rfl rfl rfl (d_load1 hS SmG_is1_22 rfl 0 rfl rfl) (hS.partD (.cons _ (.cons_cons _ (.cons_cons _ .slnil))) 0 rfl (.refl _)) ?_)
           intro a hA
           refine any_one (by kernel_rfl) (op_call hA 20 rfl rfl rfl rfl (enters_func  rfl rfl (fun w => by kernel_rfl)) (rtimes_as hn9 _ _ (hS.rd 0 rfl) (hS.rd 9 rfl) (by omega) (by omega)) ?_)
           rintro _ w148 ⟨ro144, rc145, rfl, ho146, hb147⟩
           replace hS := hS.call hb147
           replace hS := hS.addR ho146.rd
           refine ⟨_, rfl, (hS.partD (.cons _ (.cons_cons _ (.cons_cons _ .slnil))) 1 rfl (.refl _)), ?_⟩
           intro a hA
           refine any_one (by kernel_rfl) (op_call hA 27 rfl rfl rfl rfl (enters_func  rfl rfl (fun w => by kernel_rfl)) (rtimes_as hd9 _ _ (hS.rd 2 rfl) (hS.rd 9 rfl) (by omega) (by omega)) ?_)
           rintro _ w153 ⟨ro149, rc150, rfl, ho151, hb152⟩
           replace hS := hS.call hb152
           replace hS := hS.addR ho151.rd
           refine ⟨_, rfl, (hS.partD (.cons _ (.cons_cons _ (.cons_cons _ .slnil))) 2 rfl (.refl _)), ?_⟩
           intro a hA
           refine any_tk (v := .agg #[.bool ((rb (P * u).num)), .slice ro144 ((words (P * u).num.natAbs).length) rc145, .slice ro149 ((words (P * u).den).length) rc150]) hA 28 rfl rfl rfl rfl hP (hS.partD (.cons _ (.cons_cons _ (.cons_cons _ .slnil))) 2 rfl (.refl _)) (fun w1 hS => d_build rfl (fun w => by kernel_rfl)) ?_
           intro a hA
           refine any_tk (v := .pointer (some ⟨g33, 0, none⟩)) hA 29 rfl rfl rfl rfl hP (hS.partD (.cons _ (.cons_cons _ (.cons_cons _ .slnil))) 2 rfl (.refl _)) (fun w1 hS => d_field SmG_fld_26_0 rfl rfl) ?_
           intro a hA
           refine any_one (by kernel_rfl) (op_store (us := [.bool ((rb (P * u).num)), .slice ro144 ((words (P * u).num.natAbs).length) rc145, .slice ro149 ((words (P * u).den).length) rc150, .bool false, .slice p29_3 0 p29_c3, .slice p29_4 1 p29_c4]) hA hS 30 rfl rfl rfl (sets_store rfl rfl rfl (by kernel_rfl) hS 0 rfl rfl rfl) 0 rfl rfl rfl rfl ?_)
           intro w154 hS
           refine ⟨(hS.partD (.cons _ (.cons_cons _ (.cons_cons _ .slnil))) 2 rfl (.refl _)), ?_⟩
           refine any_end (by kernel_rfl) ?_
           refine hJ68 _ _ ⟨ro144, rc145, ro149, rc150, hA.keep _ ⟨rfl, rfl, rfl, rfl, rfl, rfl, rfl, rfl, rfl, rfl, rfl, rfl, rfl, rfl, rfl, rfl, rfl, rfl, rfl, rfl, rfl, rfl, rfl, rfl, rfl, rfl, rfl, trivial⟩, (St.pickRL hS ⟨⟨0, rfl⟩, ⟨⟨1, rfl⟩, ⟨⟨2, rfl⟩, ⟨⟨3, rfl⟩, ⟨⟨4, rfl⟩, ⟨⟨5, rfl⟩, ⟨⟨6, rfl⟩, ⟨⟨7, rfl⟩, ⟨⟨8, rfl⟩, ⟨⟨9, rfl⟩, ⟨⟨10, rfl⟩, ⟨⟨11, rfl⟩, trivial⟩⟩⟩⟩⟩⟩⟩⟩⟩⟩⟩⟩ [0, 1, 2] rfl (by decide)), ho151.nocap, ho151.caps, ho146.nocap, ho146.caps⟩
         · refine op_do hA 16 rfl rfl rfl rfl (d_load1 hS SmG_is1_22 rfl 0 rfl rfl) (hS.partD (.cons _ (.cons_cons _ (.cons_cons _ .slnil))) 0 rfl (.refl _)) ?_
           intro a hA
           refine any_one (by kernel_rfl) (op_do hA 2 rfl rfl rfl rfl (d_load1 hS SmG_is1_4 rfl 0 rfl rfl) (hS.partD (.cons _ (.cons_cons _ (.cons_cons _ .slnil))) 0 rfl (.refl _)) ?_)
           intro a hA
           refine any_tk (v := .bool false) hA 6 rfl rfl rfl rfl hP (hS.partD (.cons _ (.cons_cons _ (.cons_cons _ .slnil))) 0 rfl (.refl _)) (fun w1 hS => d_bin rfl rfl (fun w => ((bin_neqB Tryz.underlying4) w).trans (by rw [show (!((rb P.num) == rb u.num)) = false from (by rw [hPs, hsu]; rfl)]))) ?_
           intro a hA
           refine any_tk hA 7 rfl rfl rfl rfl hP (hS.partD (.cons _ (.cons_cons _ (.cons_cons _ .slnil))) 0 rfl (.refl _)) (fun w1 hS => d_move rfl) ?_
           intro a hA
           refine any_sk hA 8 rfl rfl rfl rfl hP (hS.partD (.cons _ (.cons_cons _ (.cons_cons _ .slnil))) 0 rfl (.refl _)) ?_
           intro a hA
           refine any_sk hA 9 rfl rfl rfl rfl hP (hS.partD (.cons _ (.cons_cons _ (.cons_cons _ .slnil))) 0 rfl (.refl _)) ?_
           intro a hA
           refine any_sk hA 10 rfl rfl rfl rfl hP (hS.partD (.cons _ (.cons_cons _ (.cons_cons _ .slnil))) 0 rfl (.refl _)) ?_
           intro a hA
           refine any_sk hA 11 rfl rfl rfl rfl hP (hS.partD (.cons _ (.cons_cons _ (.cons_cons _ .slnil))) 0 rfl (.refl _)) ?_
           intro a hA
           refine any_sk hA 12 rfl rfl rfl rfl hP (hS.partD (.cons _ (.cons_cons _ (.cons_cons _ .slnil))) 0 rfl (.refl _)) ?_
           intro a hA
           refine any_tk (v := .bool ((rb (P * u).num))) hA 13 rfl rfl rfl rfl hP (hS.partD (.cons _ (.cons_cons _ (.cons_cons _ .slnil))) 0 rfl (.refl _)) (fun w1 hS => d_pick rfl rfl rfl (by rw [hsg9]; rfl)) ?_
           intro a hA
           refine any_one (by kernel_rfl) (op_call hA 20 rfl rfl rfl rfl (enters_func  rfl rfl (fun w => by kernel_rfl)) (rtimes_as hn9 _ _ (hS.rd 0 rfl) (hS.rd 9 rfl) (by omega) (by omega)) ?_)
           rintro _ w159 ⟨ro155, rc156, rfl, ho157, hb158⟩
           replace hS := hS.call hb158
           replace hS := hS.addR ho157.rd
           refine ⟨_, rfl, (hS.partD (.cons _ (.cons_cons _ (.cons_cons _ .slnil))) 1 rfl (.refl _)), ?_⟩
           intro a hA
           refine any_one (by kernel_rfl) (op_call hA 27 rfl rfl rfl rfl (enters_func  rfl rfl (fun w => by kernel_rfl)) (rtimes_as hd9 _ _ (hS.rd 2 rfl) (hS.rd 9 rfl) (by omega) (by omega)) ?_)
           rintro _ w164 ⟨ro160, rc161, rfl, ho162, hb163⟩
           replace hS := hS.call hb163
           replace hS := hS.addR ho162.rd
           refine ⟨_, rfl, (hS.partD (.cons _ (.cons_cons _ (.cons_cons _ .slnil))) 2 rfl (.refl _)), ?_⟩
           intro a hA
           refine any_tk (v := .agg #[.bool ((rb (P * u).num)), .slice ro155 ((words (P * u).num.natAbs).length) rc156, .slice ro160 ((words (P * u).den).length) rc161]) hA 28 rfl rfl rfl rfl hP (hS.partD (.cons _ (.cons_cons _ (.cons_cons _ .slnil))) 2 rfl (.refl _)) (fun w1 hS => d_build rfl (fun w => by kernel_rfl)) ?_
           intro a hA
           refine any_tk (v := .pointer (some ⟨g33, 0, none⟩)) hA 29 rfl rfl rfl rfl hP (hS.partD (.cons _ (.cons_cons _ (.cons_cons _ .slnil))) 2 rfl (.refl _)) (fun w1 hS => d_field SmG_fld_26_0 rfl rfl) ?_
           intro a hA
           refine any_one (by kernel_rfl) (op_store (us := [.bool ((rb (P * u).num)), .slice ro155 ((words (P * u).num.natAbs).length) rc156, .slice ro160 ((words (P * u).den).length) rc161, .bool false, .slice p29_3 0 p29_c3, .slice p29_4 1 p29_c4]) hA hS 30 rfl rfl rfl (sets_store rfl rfl rfl (by kernel_rfl) hS 0 rfl rfl rfl) 0 rfl rfl rfl rfl ?_)
           intro w165 hS
           refine ⟨(hS.partD (.cons _ (.cons_cons _ (.cons_cons _ .slnil))) 2 rfl (.refl _)), ?_⟩
           refine any_end (by kernel_rfl) ?_
           refine hJ68 _ _ ⟨ro155, rc156, ro160, rc161, hA.keep _ ⟨rfl, rfl, rfl, rfl, rfl, rfl, rfl, rfl, rfl, rfl, rfl, rfl, rfl, rfl, rfl, rfl, rfl, rfl, rfl, rfl, rfl, rfl, rfl, rfl, rfl, rfl, rfl, trivial⟩, (St.pickRL hS ⟨⟨0, rfl⟩, ⟨⟨1, rfl⟩, ⟨⟨2, rfl⟩, ⟨⟨3, rfl⟩, ⟨⟨4, rfl⟩, ⟨⟨5, rfl⟩, ⟨⟨6, rfl⟩, ⟨⟨7, rfl⟩, ⟨⟨8, rfl⟩, ⟨⟨9, rfl⟩, ⟨⟨10, rfl⟩, ⟨⟨11, rfl⟩, trivial⟩⟩⟩⟩⟩⟩⟩⟩⟩⟩⟩⟩ [0, 1, 2] rfl (by decide)), ho162.nocap, ho162.caps, ho157.nocap, ho157.caps⟩
     · have hb43' := of_decide_eq_false hb43
       refine seq_do (v := .bool false) hA rfl rfl rfl (d_bin rfl rfl (fun w => (bin_lss w).trans (by rw [hb43]))) ?_
       intro a hA
       refine seq_end ?_
       refine hK42 _ _ ?_
       refine wp_cond_false (hA.ev rfl) ?_
       refine wp_exit ?_
       refine hK36 _ _ ?_
       refine wp_seq_k (fun K166 hK166 => ?_)
       refine wp_seq_k (fun K167 hK167 => ?_)
       refine wp_region_lit ?_
       refine seq_do hA rfl rfl rfl (d_move rfl) ?_
       intro a hA
       refine seq_do (v := .bool (decide (n < 0))) hA rfl rfl rfl (d_bin rfl rfl bin_lss) ?_
       intro a hA
       refine seq_end ?_
       refine hK167 _ _ ?_
       refine wp_cond_split (t := decide (n < 0)) (hA.ev rfl) (fun hc168 => ?_) (fun hc168 => ?_)
       · have hc168' := of_decide_eq_true hc168
         refine wp_region_lit ?_
         refine seq_do hA rfl rfl rfl (d_loadS hS SmG_isS_26 rfl 0 rfl (cs := [.bool ((rb P.num)), .slice po1 ((words P.num.natAbs).length) poc1, .slice po2 ((words P.den).length) poc2, .bool false, .slice p29_3 0 p29_c3, .slice p29_4 1 p29_c4]) rfl rfl) ?_
         intro a hA
         refine seq_call hA rfl rfl rfl (enters_func  rfl rfl (fun w => by kernel_rfl)) (rinv0_any (show Nm _ (Q6.real P) po1 poc1 po2 poc2 p29_3 p29_c3 p29_4 p29_c4 from ⟨⟨(hS.rd 0 rfl), kn1.1, kn1.2⟩, ⟨(hS.rd 1 rfl), kn2.1, kn2.2⟩, ⟨(hS.rd 3 rfl), hn30.s3.nil, hn30.s3.cap⟩, ⟨(hS.rd 2 rfl), hn30.s4.nil, hn30.s4.cap⟩⟩) LP (fun c => hz (by omega) (pow_zero9 hPw hv0 c)) (iv_fst (by omega) hp9 j0) (iv_snd (by omega) hp9 j0)) ?_
         rintro _ w172 ⟨p169_1, p169_c1, p169_2, p169_c2, p169_3, p169_c3, p169_4, p169_c4, rfl, hn170, hb171⟩
         replace hS := hS.call hb171
         replace hS := hS.addR hn170.s1.rd
         replace hS := hS.addR hn170.s2.rd
         replace hS := hS.addR hn170.s3.rd
         replace hS := hS.addR hn170.s4.rd
         refine ⟨_, rfl, ?_⟩
         intro a hA
         refine seq_store (us := [.bool (rb i1.num), .slice p169_1 ((words i1.num.natAbs).length) p169_c1, .slice p169_2 ((words i1.den).length) p169_c2, .bool (rb i2.num), .slice p169_3 ((words i2.num.natAbs).length) p169_c3, .slice p169_4 ((words i2.den).length) p169_c4]) hA hS rfl rfl (sets_store rfl rfl rfl (by kernel_rfl) hS 0 rfl rfl rfl) 0 rfl rfl rfl rfl ?_
         intro w173 hS
         refine seq_end ?_
         refine hK166 _ _ ?_
         refine wp_seq_k (fun K174 hK174 => ?_)
         refine wp_region_lit ?_
         refine seq_do hA rfl rfl rfl (d_loadS hS SmG_isS_26 rfl 0 rfl (cs := [.bool (rb i1.num), .slice p169_1 ((words i1.num.natAbs).length) p169_c1, .slice p169_2 ((words i1.den).length) p169_c2, .bool (rb i2.num), .slice p169_3 ((words i2.num.natAbs).length) p169_c3, .slice p169_4 ((words i2.den).length) p169_c4]) rfl rfl) ?_
         intro a hA
         refine seq_call hA rfl rfl rfl (enters_func  rfl rfl (fun w => by kernel_rfl)) (rfit_any (show Nm _ (Q6.rat i1 i2) p169_1 p169_c1 p169_2 p169_c2 p169_3 p169_c3 p169_4 p169_c4 from ⟨⟨(hS.rd 3 rfl), hn170.s1.nil, hn170.s1.cap⟩, ⟨(hS.rd 2 rfl), hn170.s2.nil, hn170.s2.cap⟩, ⟨(hS.rd 1 rfl), hn170.s3.nil, hn170.s3.cap⟩, ⟨(hS.rd 0 rfl), hn170.s4.nil, hn170.s4.cap⟩⟩) (LI (by omega) ((show i = N by omega) ▸ hB9)).1 (LI (by omega) ((show i = N by omega) ▸ hB9)).2) ?_
         rintro _ w178 ⟨p175_1, p175_c1, p175_2, p175_c2, p175_3, p175_c3, p175_4, p175_c4, rfl, hn176, hb177⟩
         replace hS := hS.call hb177
         replace hS := hS.addR hn176.s1.rd
         replace hS := hS.addR hn176.s2.rd
         replace hS := hS.addR hn176.s3.rd
         replace hS := hS.addR hn176.s4.rd
         refine ⟨_, rfl, ?_⟩
         intro a hA
         refine seq_do (v := .agg #[.bool ((ratS i1 i2).1.b1), .slice p175_1 (((ratS i1 i2).1.t1).length) p175_c1, .slice p175_2 (((ratS i1 i2).1.q1).length) p175_c2, .bool ((ratS i1 i2).1.b2), .slice p175_3 (((ratS i1 i2).1.t2).length) p175_c3, .slice p175_4 (((ratS i1 i2).1.q2).length) p175_c4]) hA rfl rfl rfl (d_extract (vs := [.agg #[.bool ((ratS i1 i2).1.b1), .slice p175_1 (((ratS i1 i2).1.t1).length) p175_c1, .slice p175_2 (((ratS i1 i2).1.q1).length) p175_c2, .bool ((ratS i1 i2).1.b2), .slice p175_3 (((ratS i1 i2).1.t2).length) p175_c3, .slice p175_4 (((ratS i1 i2).1.q2).length) p175_c4], .int .i64 ((ratS i1 i2).2)]) rfl rfl) ?_
         intro a hA
         refine seq_do (v := .int .i64 ((ratS i1 i2).2)) hA rfl rfl rfl (d_extract (vs := [.agg #[.bool ((ratS i1 i2).1.b1), .slice p175_1 (((ratS i1 i2).1.t1).length) p175_c1, .slice p175_2 (((ratS i1 i2).1.q1).length) p175_c2, .bool ((ratS i1 i2).1.b2), .slice p175_3 (((ratS i1 i2).1.t2).length) p175_c3, .slice p175_4 (((ratS i1 i2).1.q2).length) p175_c4], .int .i64 ((ratS i1 i2).2)]) rfl rfl) ?_
         intro a hA
         refine seq_store (us := [.bool ((ratS i1 i2).1.b1), .slice p175_1 (((ratS i1 i2).1.t1).length) p175_c1, .slice p175_2 (((ratS i1 i2).1.q1).length) p175_c2, .bool ((ratS i1 i2).1.b2), .slice p175_3 (((ratS i1 i2).1.t2).length) p175_c3, .slice p175_4 (((ratS i1 i2).1.q2).length) p175_c4]) hA hS rfl rfl (sets_store rfl rfl rfl (by kernel_rfl) hS 1 rfl rfl rfl) 1 rfl rfl rfl rfl ?_
         intro w179 hS
         refine seq_do hA rfl rfl rfl (d_assign rfl) ?_
         intro a hA
         refine seq_end ?_
         refine hK174 _ _ ?_
         refine wp_ret ?_
         refine hret _ _ ?_
         refine ends (v := .tuple #[.agg #[.bool ((ratS i1 i2).1.b1), .slice p175_1 (((ratS i1 i2).1.t1).length) p175_c1, .slice p175_2 (((ratS i1 i2).1.q1).length) p175_c2, .bool ((ratS i1 i2).1.b2), .slice p175_3 (((ratS i1 i2).1.t2).length) p175_c3, .slice p175_4 (((ratS i1 i2).1.q2).length) p175_c4], .int .i64 ((ratS i1 i2).2)]) hA rfl (.cons (res_cell hS SmG_isS_26 rfl 1 rfl (cs := [.bool ((ratS i1 i2).1.b1), .slice p175_1 (((ratS i1 i2).1.t1).length) p175_c1, .slice p175_2 (((ratS i1 i2).1.q1).length) p175_c2, .bool ((ratS i1 i2).1.b2), .slice p175_3 (((ratS i1 i2).1.t2).length) p175_c3, .slice p175_4 (((ratS i1 i2).1.q2).length) p175_c4]) rfl rfl) (.cons (res_tmp rfl) .nil)) rfl ?_
         obtain rfl : i = N := by omega
         rw [ex_neg hu hv hN h1 h2 (by omega) (hz (by omega)), if_pos hB9, j0]
         show AnsN w (ratS i1 i2) _ _
         exact ⟨p175_1, p175_c1, p175_2, p175_c2, p175_3, p175_c3, p175_4, p175_c4, rfl, ⟨⟨(hS.rd 3 rfl), hn176.s1.nil, hn176.s1.cap⟩, ⟨(hS.rd 2 rfl), hn176.s2.nil, hn176.s2.cap⟩, ⟨(hS.rd 1 rfl), hn176.s3.nil, hn176.s3.cap⟩, ⟨(hS.rd 0 rfl), hn176.s4.nil, hn176.s4.cap⟩⟩, hS.bel⟩
       · have hc168' := of_decide_eq_false hc168
         refine wp_skip ?_
         refine hK166 _ _ ?_
         refine wp_seq_k (fun K180 hK180 => ?_)
         refine wp_region_lit ?_
         refine seq_do hA rfl rfl rfl (d_loadS hS SmG_isS_26 rfl 0 rfl (cs := [.bool ((rb P.num)), .slice po1 ((words P.num.natAbs).length) poc1, .slice po2 ((words P.den).length) poc2, .bool false, .slice p29_3 0 p29_c3, .slice p29_4 1 p29_c4]) rfl rfl) ?_
         intro a hA
         refine seq_call hA rfl rfl rfl (enters_func  rfl rfl (fun w => by kernel_rfl)) (rfit0_any (show Nm _ (Q6.real P) po1 poc1 po2 poc2 p29_3 p29_c3 p29_4 p29_c4 from ⟨⟨(hS.rd 0 rfl), kn1.1, kn1.2⟩, ⟨(hS.rd 1 rfl), kn2.1, kn2.2⟩, ⟨(hS.rd 3 rfl), hn30.s3.nil, hn30.s3.cap⟩, ⟨(hS.rd 2 rfl), hn30.s4.nil, hn30.s4.cap⟩⟩) (LP.mono (by decide))) ?_
         rintro _ w184 ⟨p181_1, p181_c1, p181_2, p181_c2, p181_3, p181_c3, p181_4, p181_c4, rfl, hn182, hb183⟩
         replace hS := hS.call hb183
         replace hS := hS.addR hn182.s1.rd
         replace hS := hS.addR hn182.s2.rd
         replace hS := hS.addR hn182.s3.rd
         replace hS := hS.addR hn182.s4.rd
         refine ⟨_, rfl, ?_⟩
         intro a hA
         refine seq_do (v := .agg #[.bool ((ratS P 0).1.b1), .slice p181_1 (((ratS P 0).1.t1).length) p181_c1, .slice p181_2 (((ratS P 0).1.q1).length) p181_c2, .bool ((ratS P 0).1.b2), .slice p181_3 (((ratS P 0).1.t2).length) p181_c3, .slice p181_4 (((ratS P 0).1.q2).length) p181_c4]) hA rfl rfl rfl (d_extract (vs := [.agg #[.bool ((ratS P 0).1.b1), .slice p181_1 (((ratS P 0).1.t1).length) p181_c1, .slice p181_2 (((ratS P 0).1.q1).length) p181_c2, .bool ((ratS P 0).1.b2), .slice p181_3 (((ratS P 0).1.t2).length) p181_c3, .slice p181_4 (((ratS P 0).1.q2).length) p181_c4], .int .i64 ((ratS P 0).2)]) rfl rfl) ?_
         intro a hA
         refine seq_do (v := .int .i64 ((ratS P 0).2)) hA rfl rfl rfl (d_extract (vs := [.agg #[.bool ((ratS P 0).1.b1), .slice p181_1 (((ratS P 0).1.t1).length) p181_c1, .slice p181_2 (((ratS P 0).1.q1).length) p181_c2, .bool ((ratS P 0).1.b2), .slice p181_3 (((ratS P 0).1.t2).length) p181_c3, .slice p181_4 (((ratS P 0).1.q2).length) p181_c4], .int .i64 ((ratS P 0).2)]) rfl rfl) ?_
         intro a hA
         refine seq_store (us := [.bool ((ratS P 0).1.b1), .slice p181_1 (((ratS P 0).1.t1).length) p181_c1, .slice p181_2 (((ratS P 0).1.q1).length) p181_c2, .bool ((ratS P 0).1.b2), .slice p181_3 (((ratS P 0).1.t2).length) p181_c3, .slice p181_4 (((ratS P 0).1.q2).length) p181_c4]) hA hS rfl rfl (sets_store rfl rfl rfl (by kernel_rfl) hS 1 rfl rfl rfl) 1 rfl rfl rfl rfl ?_
         intro w185 hS
         refine seq_do hA rfl rfl rfl (d_assign rfl) ?_
         intro a hA
         refine seq_end ?_
         refine hK180 _ _ ?_
         refine wp_ret ?_
         refine hret _ _ ?_
         refine ends (v := .tuple #[.agg #[.bool ((ratS P 0).1.b1), .slice p181_1 (((ratS P 0).1.t1).length) p181_c1, .slice p181_2 (((ratS P 0).1.q1).length) p181_c2, .bool ((ratS P 0).1.b2), .slice p181_3 (((ratS P 0).1.t2).length) p181_c3, .slice p181_4 (((ratS P 0).1.q2).length) p181_c4], .int .i64 ((ratS P 0).2)]) hA rfl (.cons (res_cell hS SmG_isS_26 rfl 1 rfl (cs := [.bool ((ratS P 0).1.b1), .slice p181_1 (((ratS P 0).1.t1).length) p181_c1, .slice p181_2 (((ratS P 0).1.q1).length) p181_c2, .bool ((ratS P 0).1.b2), .slice p181_3 (((ratS P 0).1.t2).length) p181_c3, .slice p181_4 (((ratS P 0).1.q2).length) p181_c4]) rfl rfl) (.cons (res_tmp rfl) .nil)) rfl ?_
         obtain rfl : i = N := by omega
         rw [ex_pos hu hv hN h1 h2 (by omega), if_pos hB9, hp9]
         show AnsN w (ratS _ _) _ _
         exact ⟨p181_1, p181_c1, p181_2, p181_c2, p181_3, p181_c3, p181_4, p181_c4, rfl, ⟨⟨(hS.rd 3 rfl), hn182.s1.nil, hn182.s1.cap⟩, ⟨(hS.rd 2 rfl), hn182.s2.nil, hn182.s2.cap⟩, ⟨(hS.rd 1 rfl), hn182.s3.nil, hn182.s3.cap⟩, ⟨(hS.rd 0 rfl), hn182.s4.nil, hn182.s4.cap⟩⟩, hS.bel⟩
   refine wp_cond_split (t := decide (n < 0)) (hA.ev rfl) (fun hc186 => ?_) (fun hc186 => ?_)
   · have hc186' := of_decide_eq_true hc186
     refine wp_region_lit ?_
     refine seq_do hA rfl rfl rfl (d_move rfl) ?_
     intro a hA
     refine seq_do (v := .int .i64 (((N : Nat) : Int))) hA rfl rfl rfl (d_un rfl (ar_neg (show IntKind.i64.wrap (-n) = ((N : Nat) : Int) from (in_i64 (by omega) (by omega)).trans (by omega)))) ?_
     intro a hA
     refine seq_do hA rfl rfl rfl (d_assign rfl) ?_
     intro a hA
     refine seq_end ?_
     exact hJ26 _ _ ⟨hA.keep _ ⟨rfl, rfl, rfl, rfl, rfl, rfl, rfl, rfl, rfl, rfl, rfl, rfl, rfl, rfl, rfl, rfl, rfl, rfl, rfl, rfl, trivial⟩, hS⟩
   · have hc186' := of_decide_eq_false hc186
     refine wp_skip ?_
     exact hJ26 _ _ ⟨hA.keep _ ⟨rfl, rfl, rfl, rfl, rfl, (congrArg (fun z => some (Value.int .i64 z)) (show n = ((N : Nat) : Int) by omega)), rfl, rfl, rfl, rfl, rfl, rfl, rfl, rfl, rfl, rfl, rfl, rfl, rfl, rfl, trivial⟩, hS⟩
 refine wp_region_lit ?_
 refine seq_do hA rfl rfl rfl (d_loadS hS SmG_isS_26 rfl 1 rfl (cs := [.bool (rb u.num), .slice a1 ((words u.num.natAbs).length) ac1, .slice a2 ((words u.den).length) ac2, .bool (rb v.num), .slice a3 ((words v.num.natAbs).length) ac3, .slice a4 ((words v.den).length) ac4]) rfl rfl) ?_
 intro a hA
 rcases Bool.eq_false_or_eq_true (decide (u = 0 ∧ v = 0)) with hb187 | hb187
 · have hb187' := of_decide_eq_true hb187
   refine seq_call hA rfl rfl rfl (enters_func  rfl rfl (fun w => by kernel_rfl)) (risZero_any (show Nm _ (Q6.rat u v) a1 ac1 a2 ac2 a3 ac3 a4 ac4 from ⟨⟨(hS.rd 3 rfl), ha.s1.nil, ha.s1.cap⟩, ⟨(hS.rd 2 rfl), ha.s2.nil, ha.s2.cap⟩, ⟨(hS.rd 1 rfl), ha.s3.nil, ha.s3.cap⟩, ⟨(hS.rd 0 rfl), ha.s4.nil, ha.s4.cap⟩⟩) hu hv hb187) ?_
   rintro _ w189 ⟨rfl, hb188⟩
   replace hS := hS.call hb188
   refine ⟨_, rfl, ?_⟩
   intro a hA
   refine seq_do hA rfl rfl rfl (d_move rfl) ?_
   intro a hA
   refine seq_do hA rfl rfl rfl (d_move rfl) ?_
   intro a hA
   refine seq_do (v := .bool false) hA rfl rfl rfl (d_bin rfl rfl (fun w => (bin_lss w).trans (by rw [show (decide (n < 0)) = false from (decide_eq_false (fun c => hz c (of_decide_eq_true hb187)))]))) ?_
   intro a hA
   refine seq_do (v := .bool false) hA rfl rfl rfl (d_pick rfl rfl rfl rfl) ?_
   intro a hA
   refine seq_end ?_
   exact hJ21 _ _ ⟨hA.keep _ ⟨rfl, rfl, rfl, rfl, rfl, rfl, rfl, rfl, rfl, rfl, rfl, rfl, rfl, rfl, rfl, rfl, rfl, trivial⟩, hS⟩
 · have hb187' := of_decide_eq_false hb187
   refine seq_call hA rfl rfl rfl (enters_func  rfl rfl (fun w => by kernel_rfl)) (risZero_any (show Nm _ (Q6.rat u v) a1 ac1 a2 ac2 a3 ac3 a4 ac4 from ⟨⟨(hS.rd 3 rfl), ha.s1.nil, ha.s1.cap⟩, ⟨(hS.rd 2 rfl), ha.s2.nil, ha.s2.cap⟩, ⟨(hS.rd 1 rfl), ha.s3.nil, ha.s3.cap⟩, ⟨(hS.rd 0 rfl), ha.s4.nil, ha.s4.cap⟩⟩) hu hv hb187) ?_
   rintro _ w191 ⟨rfl, hb190⟩
   replace hS := hS.call hb190
   refine ⟨_, rfl, ?_⟩
   intro a hA
   refine seq_do hA rfl rfl rfl (d_move rfl) ?_
   intro a hA
   refine seq_skip hA rfl rfl rfl ?_
   intro a hA
   refine seq_skip hA rfl rfl rfl ?_
   intro a hA
   refine seq_do (v := .bool false) hA rfl rfl rfl (d_pick rfl rfl rfl rfl) ?_
   intro a hA
   refine seq_end ?_
   exact hJ21 _ _ ⟨hA.keep _ ⟨rfl, rfl, rfl, rfl, rfl, rfl, rfl, rfl, rfl, rfl, rfl, rfl, rfl, rfl, rfl, rfl, rfl, trivial⟩, hS⟩
set_option maxHeartbeats 2000000 in
theorem rexRt_any {w : World} {u v : Rat} {a1 a2 a3 a4 : Option Addr} {ac1 ac2 ac3 ac4 : Nat} (ha : Nm w (Q6.rat u v) a1 ac1 a2 ac2 a3 ac3 a4 ac4) (hu : fitR u) (hv : fitR v) {n : Int} {N : Nat} (hN : n.natAbs = N) (h1 : 1 ≤ N) (h2 : N ≤ 1024) (hz : n < 0 → ¬ (u = 0 ∧ v = 0)) (k2 : decide ((Q6.rat u v).t2.length = 0) = true) (hv0 : v = 0) (hsu : rb u.num = true) (LU : LenR 512 u) {i1 i2 : Rat} (j0 : ivR (pwR u v N) = (i1, i2)) (LI : n < 0 → pwB u v N = true → LenR 9000 i1 ∧ LenR 9000 i2) : Calls Tryz.prog 31 #[numV (Q6.rat u v) a1 ac1 a2 ac2 a3 ac3 a4 ac4, .int .i64 n] w (AnsN w (exptQ (Q6.rat u v) n)) := by
 have kU : 0 < (words u.num.natAbs).length := words_len_pos.2 (by have h7 := of_decide_eq_true hsu; omega)
 have hS : St w w [] [(a4, words v.den), (a3, words v.num.natAbs), (a2, words u.den), (a1, words u.num.natAbs)] [] := ((((St.start w).addR ha.s1.rd).addR ha.s2.rd).addR ha.s3.rd).addR ha.s4.rd
 refine walk_of (l := [(0, .agg #[.bool (rb u.num), .slice a1 ((words u.num.natAbs).length) ac1, .slice a2 ((words u.den).length) ac2, .bool (rb v.num), .slice a3 ((words v.num.natAbs).length) ac3, .slice a4 ((words v.den).length) ac4]), (1, .int .i64 n)]) Tryz.func31 rfl Tryz.ntmps31 rfl rfl ?_
 intro Q hret hnorm hP a hA
 refine wp_seq_k (fun K1 hK1 => ?_)
 refine wp_region_lit ?_
 refine seq_new hA hS rfl rfl rfl (fun g => .pointer (some ⟨g, 0, none⟩)) (d_box rfl rfl) rfl ?_
 intro g2 w3 hS a hA
 refine seq_new (vs := [.bool false, .slice none 0 0, .slice none 0 0, .bool false, .slice none 0 0, .slice none 0 0]) (t := 26) hA hS rfl rfl rfl (fun g => .pointer (some ⟨g, 0, none⟩)) (d_alloc (z := .agg #[.bool false, .slice none 0 0, .slice none 0 0, .bool false, .slice none 0 0, .slice none 0 0]) (by kernel_rfl) rfl) rfl ?_
 intro g4 w5 hS a hA
 refine seq_do hA rfl rfl rfl (d_assign rfl) ?_
 intro a hA
 refine seq_end ?_
 refine hK1 _ _ ?_
 refine wp_seq_k (fun K6 hK6 => ?_)
 refine wp_seq_k (fun K7 hK7 => ?_)
 refine wp_region_lit ?_
 refine seq_do hA rfl rfl rfl (d_loadS hS SmG_isS_26 rfl 1 rfl (cs := [.bool (rb u.num), .slice a1 ((words u.num.natAbs).length) ac1, .slice a2 ((words u.den).length) ac2, .bool (rb v.num), .slice a3 ((words v.num.natAbs).length) ac3, .slice a4 ((words v.den).length) ac4]) rfl rfl) ?_
 intro a hA
 refine seq_call hA rfl rfl rfl (enters_func  rfl rfl (fun w => by kernel_rfl)) (rsoundQ_any (show Nm _ (Q6.rat u v) a1 ac1 a2 ac2 a3 ac3 a4 ac4 from ⟨⟨(hS.rd 3 rfl), ha.s1.nil, ha.s1.cap⟩, ⟨(hS.rd 2 rfl), ha.s2.nil, ha.s2.cap⟩, ⟨(hS.rd 1 rfl), ha.s3.nil, ha.s3.cap⟩, ⟨(hS.rd 0 rfl), ha.s4.nil, ha.s4.cap⟩⟩) (lenQ_rat hu hv) (soundQ_rat hu hv)) ?_
 rintro _ w9 ⟨rfl, hb8⟩
 replace hS := hS.call hb8
 refine ⟨_, rfl, ?_⟩
 intro a hA
 refine seq_do (v := .bool false) hA rfl rfl rfl (d_un rfl un_not) ?_
 intro a hA
 refine seq_end ?_
 refine hK7 _ _ ?_
 refine wp_cond_false (hA.ev rfl) ?_
 refine wp_skip ?_
 refine hK6 _ _ ?_
 refine wp_seq_k (fun K10 hK10 => ?_)
 refine wp_seq_k (fun K11 hK11 => ?_)
 refine wp_region_lit ?_
 refine seq_do hA rfl rfl rfl (d_move rfl) ?_
 intro a hA
 refine seq_do (v := .bool false) hA rfl rfl rfl (d_bin rfl rfl (fun w => (bin_lss w).trans (by rw [show (decide (n < -1024)) = false from (decide_eq_false (by omega))]))) ?_
 intro a hA
 refine seq_do hA rfl rfl rfl (d_move rfl) ?_
 intro a hA
 refine seq_do hA rfl rfl rfl (d_move rfl) ?_
 intro a hA
 refine seq_do (v := .bool false) hA rfl rfl rfl (d_bin rfl rfl (fun w => (bin_gtr w).trans (by rw [show (decide (1024 < n)) = false from (decide_eq_false (by omega))]))) ?_
 intro a hA
 refine seq_do (v := .bool false) hA rfl rfl rfl (d_pick rfl rfl rfl rfl) ?_
 intro a hA
 refine seq_end ?_
 refine hK11 _ _ ?_
 refine wp_cond_false (hA.ev rfl) ?_
 refine wp_skip ?_
 refine hK10 _ _ ?_
 refine wp_seq_k (fun K12 hK12 => ?_)
 refine wp_seq_k (fun K13 hK13 => ?_)
 refine wp_region_lit ?_
 refine seq_do hA rfl rfl rfl (d_move rfl) ?_
 intro a hA
 refine seq_do (v := .bool false) hA rfl rfl rfl (d_bin rfl rfl (fun w => (bin_eql w).trans (by rw [show ((n == 0)) = false from (beq_eq_false_iff_ne.2 (by omega))]))) ?_
 intro a hA
 refine seq_end ?_
 refine hK13 _ _ ?_
 refine wp_cond_false (hA.ev rfl) ?_
 refine wp_skip ?_
 refine hK12 _ _ ?_
 refine wp_seq_k (fun K14 hK14 => ?_)
 refine wp_seq_k (fun K15 hK15 => ?_)
 have hJ21 : ∀ a w1, (Sl a 87 [(0, .agg #[.bool (rb u.num), .slice a1 ((words u.num.natAbs).length) ac1, .slice a2 ((words u.den).length) ac2, .bool (rb v.num), .slice a3 ((words v.num.natAbs).length) ac3, .slice a4 ((words v.den).length) ac4]), (1, .int .i64 n), (2, .pointer (some ⟨g2, 0, none⟩)), (4, .pointer (some ⟨g4, 0, none⟩)), (5, .int .i64 0), (9, .agg #[.bool (rb u.num), .slice a1 ((words u.num.natAbs).length) ac1, .slice a2 ((words u.den).length) ac2, .bool (rb v.num), .slice a3 ((words v.num.natAbs).length) ac3, .slice a4 ((words v.den).length) ac4]), (10, .bool true), (11, .bool false), (13, .int .i64 n), (14, .bool false), (15, .bool false), (16, .int .i64 n), (17, .bool false), (18, .bool false), (20, .int .i64 n), (21, .bool false), (28, .bool false)] ∧ St w w1 [(g4, [.bool false, .slice none 0 0, .slice none 0 0, .bool false, .slice none 0 0, .slice none 0 0]), (g2, [.bool (rb u.num), .slice a1 ((words u.num.natAbs).length) ac1, .slice a2 ((words u.den).length) ac2, .bool (rb v.num), .slice a3 ((words v.num.natAbs).length) ac3, .slice a4 ((words v.den).length) ac4])] [(a4, words v.den), (a3, words v.num.natAbs), (a2, words u.den), (a1, words u.num.natAbs)] []) → K15 a w1 := by
   clear hA hS
   rintro a w22 ⟨hA, hS⟩
   refine hK15 _ _ ?_
   refine wp_cond_false (hA.ev rfl) ?_
   refine wp_skip ?_
   refine hK14 _ _ ?_
   refine wp_seq_k (fun K23 hK23 => ?_)
   refine wp_region_lit ?_
   refine seq_do hA rfl rfl rfl (d_move rfl) ?_
   intro a hA
   refine seq_do hA rfl rfl rfl (d_assign rfl) ?_
   intro a hA
   refine seq_end ?_
   refine hK23 _ _ ?_
   refine wp_seq_k (fun K24 hK24 => ?_)
   refine wp_seq_k (fun K25 hK25 => ?_)
   refine wp_region_lit ?_
   refine seq_do hA rfl rfl rfl (d_move rfl) ?_
   intro a hA
   refine seq_do (v := .bool (decide (n < 0))) hA rfl rfl rfl (d_bin rfl rfl bin_lss) ?_
   intro a hA
   refine seq_end ?_
   refine hK25 _ _ ?_
   have hJ26 : ∀ a w1, (Sl a 87 [(0, .agg #[.bool (rb u.num), .slice a1 ((words u.num.natAbs).length) ac1, .slice a2 ((words u.den).length) ac2, .bool (rb v.num), .slice a3 ((words v.num.natAbs).length) ac3, .slice a4 ((words v.den).length) ac4]), (1, .int .i64 n), (2, .pointer (some ⟨g2, 0, none⟩)), (4, .pointer (some ⟨g4, 0, none⟩)), (5, .int .i64 0), (6, .int .i64 (((N : Nat) : Int))), (9, .agg #[.bool (rb u.num), .slice a1 ((words u.num.natAbs).length) ac1, .slice a2 ((words u.den).length) ac2, .bool (rb v.num), .slice a3 ((words v.num.natAbs).length) ac3, .slice a4 ((words v.den).length) ac4]), (10, .bool true), (11, .bool false), (13, .int .i64 n), (14, .bool false), (15, .bool false), (16, .int .i64 n), (17, .bool false), (18, .bool false), (20, .int .i64 n), (21, .bool false), (28, .bool false), (30, .int .i64 n), (31, .int .i64 n)] ∧ St w w1 [(g4, [.bool false, .slice none 0 0, .slice none 0 0, .bool false, .slice none 0 0, .slice none 0 0]), (g2, [.bool (rb u.num), .slice a1 ((words u.num.natAbs).length) ac1, .slice a2 ((words u.den).length) ac2, .bool (rb v.num), .slice a3 ((words v.num.natAbs).length) ac3, .slice a4 ((words v.den).length) ac4])] [(a4, words v.den), (a3, words v.num.natAbs), (a2, words u.den), (a1, words u.num.natAbs)] []) → K24 a w1 := by
     clear hA hS
     rintro a w27 ⟨hA, hS⟩
     refine hK24 _ _ ?_
     refine wp_seq_k (fun K28 hK28 => ?_)
     refine wp_region_lit ?_
     refine seq_call hA rfl rfl rfl (enters_func  rfl rfl (fun w => by kernel_rfl)) (rint1_any) ?_
     rintro _ w32 ⟨p29_1, p29_c1, p29_2, p29_c2, p29_3, p29_c3, p29_4, p29_c4, rfl, hn30, hb31⟩
     replace hS := hS.call hb31
     replace hS := hS.addR hn30.s1.rd
     replace hS := hS.addR hn30.s2.rd
     replace hS := hS.addR hn30.s3.rd
     replace hS := hS.addR hn30.s4.rd
     refine ⟨_, rfl, ?_⟩
     intro a hA
     refine seq_new (vs := [.bool false, .slice none 0 0, .slice none 0 0, .bool false, .slice none 0 0, .slice none 0 0]) (t := 26) hA hS rfl rfl rfl (fun g => .pointer (some ⟨g, 0, none⟩)) (d_alloc (z := .agg #[.bool false, .slice none 0 0, .slice none 0 0, .bool false, .slice none 0 0, .slice none 0 0]) (by kernel_rfl) rfl) rfl ?_
     intro g33 w34 hS a hA
     refine seq_store (us := [.bool ((rb (1 : Rat).num)), .slice p29_1 ((words (1 : Rat).num.natAbs).length) p29_c1, .slice p29_2 ((words (1 : Rat).den).length) p29_c2, .bool false, .slice p29_3 0 p29_c3, .slice p29_4 1 p29_c4]) hA hS rfl rfl (sets_store rfl rfl rfl (by kernel_rfl) hS 0 rfl rfl rfl) 0 rfl rfl rfl rfl ?_
     intro w35 hS
     refine seq_end ?_
     refine hK28 _ _ ?_
     refine wp_seq_k (fun K36 hK36 => ?_)
     refine wp_seq_k (fun K37 hK37 => ?_)
     refine wp_region_lit ?_
     refine seq_do hA rfl rfl rfl (d_assign rfl) ?_
     intro a hA
     refine seq_end ?_
     refine hK37 _ _ ?_
     refine wp_block ?_
     refine wp_loop_n (fun m a w1 => ∃ (i : Nat) (P : Rat) (po1 : Option Addr) (poc1 : Nat) (po2 : Option Addr) (poc2 : Nat), m = N - i ∧ (i ≤ N ∧ pwR u v i = (P, 0) ∧ pwB u v i = true ∧ LenR 512 P ∧ P = u ^ i ∧ P.num ≠ 0 ∧ Ncap po1 poc1 (words P.num.natAbs) ∧ Ncap po2 poc2 (words P.den)) ∧ Sl a 87 [(0, .agg #[.bool (rb u.num), .slice a1 ((words u.num.natAbs).length) ac1, .slice a2 ((words u.den).length) ac2, .bool (rb v.num), .slice a3 ((words v.num.natAbs).length) ac3, .slice a4 ((words v.den).length) ac4]), (1, .int .i64 n), (2, .pointer (some ⟨g2, 0, none⟩)), (4, .pointer (some ⟨g4, 0, none⟩)), (6, .int .i64 (((N : Nat) : Int))), (7, .pointer (some ⟨g33, 0, none⟩)), (8, .int .i64 (((i : Nat) : Int))), (9, .agg #[.bool (rb u.num), .slice a1 ((words u.num.natAbs).length) ac1, .slice a2 ((words u.den).length) ac2, .bool (rb v.num), .slice a3 ((words v.num.natAbs).length) ac3, .slice a4 ((words v.den).length) ac4]), (10, .bool true), (11, .bool false), (13, .int .i64 n), (14, .bool false), (15, .bool false), (16, .int .i64 n), (17, .bool false), (18, .bool false), (20, .int .i64 n), (21, .bool false), (28, .bool false), (30, .int .i64 n), (31, .int .i64 n), (35, .agg #[.bool ((rb (1 : Rat).num)), .slice p29_1 ((words (1 : Rat).num.natAbs).length) p29_c1, .slice p29_2 ((words (1 : Rat).den).length) p29_c2, .bool false, .slice p29_3 0 p29_c3, .slice p29_4 1 p29_c4])] ∧ St w w1 [(g33, [.bool ((rb P.num)), .slice po1 ((words P.num.natAbs).length) poc1, .slice po2 ((words P.den).length) poc2, .bool false, .slice p29_3 0 p29_c3, .slice p29_4 1 p29_c4]), (g4, [.bool false, .slice none 0 0, .slice none 0 0, .bool false, .slice none 0 0, .slice none 0 0]), (g2, [.bool (rb u.num), .slice a1 ((words u.num.natAbs).length) ac1, .slice a2 ((words u.den).length) ac2, .bool (rb v.num), .slice a3 ((words v.num.natAbs).length) ac3, .slice a4 ((words v.den).length) ac4])] [(po1, words P.num.natAbs), (po2, words P.den), (p29_4, [1]), (p29_3, []), (p29_2, words (1 : Rat).den), (p29_1, words (1 : Rat).num.natAbs), (a4, words v.den), (a3, words v.num.natAbs), (a2, words u.den), (a1, words u.num.natAbs)] []) _ ⟨0, 1, p29_1, p29_c1, p29_2, p29_c2, rfl, ⟨by omega, rfl, rfl, len_one, (Rat.pow_zero u).symm, (by decide), ⟨hn30.s1.nil, hn30.s1.cap⟩, ⟨hn30.s2.nil, hn30.s2.cap⟩⟩, hA.keep _ ⟨rfl, rfl, rfl, rfl, rfl, rfl, rfl, rfl, rfl, rfl, rfl, rfl, rfl, rfl, rfl, rfl, rfl, rfl, rfl, rfl, rfl, rfl, trivial⟩, ((hS.pickR [(p29_1, words (1 : Rat).num.natAbs), (p29_2, words (1 : Rat).den), (p29_4, [1]), (p29_3, []), (p29_2, words (1 : Rat).den), (p29_1, words (1 : Rat).num.natAbs), (a4, words v.den), (a3, words v.num.natAbs), (a2, words u.den), (a1, words u.num.natAbs)] ⟨⟨3, rfl⟩, ⟨⟨2, rfl⟩, ⟨⟨0, rfl⟩, ⟨⟨1, rfl⟩, ⟨⟨2, rfl⟩, ⟨⟨3, rfl⟩, ⟨⟨4, rfl⟩, ⟨⟨5, rfl⟩, ⟨⟨6, rfl⟩, ⟨⟨7, rfl⟩, trivial⟩⟩⟩⟩⟩⟩⟩⟩⟩⟩).subL _ (.refl _))⟩ ?_
     clear hS hA
     rintro m a w38 ⟨i, P, po1, poc1, po2, poc2, rfl, hinv40, hA, hS⟩ K39 hK39
     obtain ⟨hi9, hp9, hB9, LP, hPw, hPs, kn1, kn2⟩ := hinv40
     have hq9 := rpow_num hPw
     have hn9 : P.num.natAbs * u.num.natAbs = (P * u).num.natAbs := by rw [hq9.1, Int.natAbs_mul]
     have hd9 : P.den * u.den = (P * u).den := hq9.2.symm
     have l9a := LP.1
     have l9b := LP.2
     have l9c := LU.1
     have l9d := LU.2
     have LPu : LenR 9000 (P * u) := (lenR_mul LP LU).mono (by decide)
     have hs9 : pwR u v (i + 1) = (P * u, 0) := by
       show ((pwR u v i).1 * u - (pwR u v i).2 * v, (pwR u v i).1 * v + (pwR u v i).2 * u) = (P * u, 0)
       rw [hp9, hv0]
       congr 1 <;> grind
     have hPu : P * u = u ^ (i + 1) := by rw [hPw, Rat.pow_succ]
     have hsg9 : rb (P * u).num = !rb P.num := by rw [hq9.1]; exact rb_flip hsu hPs
     refine wp_seq_k (fun K41 hK41 => ?_)
     refine wp_seq_k (fun K42 hK42 => ?_)
     refine wp_region_lit ?_
     refine seq_do hA rfl rfl rfl (d_move rfl) ?_
     intro a hA
     refine seq_do hA rfl rfl rfl (d_move rfl) ?_
     intro a hA
     rcases Bool.eq_false_or_eq_true (decide (((i : Nat) : Int) < ((N : Nat) : Int))) with hb43 | hb43
     · have hb43' := of_decide_eq_true hb43
       refine seq_do (v := .bool true) hA rfl rfl rfl (d_bin rfl rfl (fun w => (bin_lss w).trans (by rw [hb43]))) ?_
       intro a hA
       refine seq_end ?_
       refine hK42 _ _ ?_
       refine wp_cond_true (hA.ev rfl) ?_
       refine wp_skip ?_
       refine hK41 _ _ ?_
       refine wp_seq_k (fun K44 hK44 => ?_)
       refine wp_block ?_
       refine wp_seq_k (fun K45 hK45 => ?_)
       refine wp_seq_k (fun K46 hK46 => ?_)
       refine wp_region_lit ?_
       refine seq_do hA rfl rfl rfl (d_loadS hS SmG_isS_26 rfl 2 rfl (cs := [.bool (rb u.num), .slice a1 ((words u.num.natAbs).length) ac1, .slice a2 ((words u.den).length) ac2, .bool (rb v.num), .slice a3 ((words v.num.natAbs).length) ac3, .slice a4 ((words v.den).length) ac4]) rfl rfl) ?_
       intro a hA
       rcases Bool.eq_false_or_eq_true ((rb P.num)) with hb47 | hb47
       · refine seq_call hA rfl rfl rfl (enters_func  rfl rfl (fun w => by kernel_rfl)) (rrealQ_any (show Nm _ (Q6.rat u v) a1 ac1 a2 ac2 a3 ac3 a4 ac4 from ⟨⟨(hS.rd 9 rfl), ha.s1.nil, ha.s1.cap⟩, ⟨(hS.rd 8 rfl), ha.s2.nil, ha.s2.cap⟩, ⟨(hS.rd 7 rfl), ha.s3.nil, ha.s3.cap⟩, ⟨(hS.rd 6 rfl), ha.s4.nil, ha.s4.cap⟩⟩) (lenQ_rat hu hv) k2) ?_
         rintro _ w49 ⟨rfl, hb48⟩
         replace hS := hS.call hb48
         refine ⟨_, rfl, ?_⟩
         intro a hA
         refine seq_end ?_
         refine hK46 _ _ ?_
         refine wp_cond_true (hA.ev rfl) ?_
         have hJ69 : ∀ a w1, (∃ (J61 : Option Addr) (J62 : Nat) (J63 : Option Addr) (J64 : Nat), Sl a 87 [(0, .agg #[.bool (rb u.num), .slice a1 ((words u.num.natAbs).length) ac1, .slice a2 ((words u.den).length) ac2, .bool (rb v.num), .slice a3 ((words v.num.natAbs).length) ac3, .slice a4 ((words v.den).length) ac4]), (1, .int .i64 n), (2, .pointer (some ⟨g2, 0, none⟩)), (4, .pointer (some ⟨g4, 0, none⟩)), (6, .int .i64 (((N : Nat) : Int))), (7, .pointer (some ⟨g33, 0, none⟩)), (8, .int .i64 (((i : Nat) : Int))), (9, .agg #[.bool (rb u.num), .slice a1 ((words u.num.natAbs).length) ac1, .slice a2 ((words u.den).length) ac2, .bool (rb v.num), .slice a3 ((words v.num.natAbs).length) ac3, .slice a4 ((words v.den).length) ac4]), (10, .bool true), (11, .bool false), (13, .int .i64 n), (14, .bool false), (15, .bool false), (16, .int .i64 n), (17, .bool false), (18, .bool false), (20, .int .i64 n), (21, .bool false), (28, .bool false), (30, .int .i64 n), (31, .int .i64 n), (35, .agg #[.bool ((rb (1 : Rat).num)), .slice p29_1 ((words (1 : Rat).num.natAbs).length) p29_c1, .slice p29_2 ((words (1 : Rat).den).length) p29_c2, .bool false, .slice p29_3 0 p29_c3, .slice p29_4 1 p29_c4]), (36, .int .i64 (((i : Nat) : Int))), (37, .int .i64 (((N : Nat) : Int))), (38, .bool true), (41, .agg #[.bool (rb u.num), .slice a1 ((words u.num.natAbs).length) ac1, .slice a2 ((words u.den).length) ac2, .bool (rb v.num), .slice a3 ((words v.num.natAbs).length) ac3, .slice a4 ((words v.den).length) ac4]), (42, .bool true)] ∧ St w w1 [(g33, [.bool ((rb (P * u).num)), .slice J61 ((words (P * u).num.natAbs).length) J62, .slice J63 ((words (P * u).den).length) J64, .bool false, .slice p29_3 0 p29_c3, .slice p29_4 1 p29_c4]), (g4, [.bool false, .slice none 0 0, .slice none 0 0, .bool false, .slice none 0 0, .slice none 0 0]), (g2, [.bool (rb u.num), .slice a1 ((words u.num.natAbs).length) ac1, .slice a2 ((words u.den).length) ac2, .bool (rb v.num), .slice a3 ((words v.num.natAbs).length) ac3, .slice a4 ((words v.den).length) ac4])] [(J63, words (P * u).den), (J61, words (P * u).num.natAbs), (po1, words P.num.natAbs), (po2, words P.den), (p29_4, [1]), (p29_3, []), (p29_2, words (1 : Rat).den), (p29_1, words (1 : Rat).num.natAbs), (a4, words v.den), (a3, words v.num.natAbs), (a2, words u.den), (a1, words u.num.natAbs)] [] ∧ (J63 = none → J64 = 0) ∧ (words (P * u).den : List Nat).length ≤ J64 ∧ (J61 = none → J62 = 0) ∧ (words (P * u).num.natAbs : List Nat).length ≤ J62) → K45 a w1 := by
           clear hA hS
           rintro a w70 ⟨J61, J62, J63, J64, hA, hS, hn65, hc66, hn67, hc68⟩
           refine hK45 _ _ ?_
           refine wp_seq_k (fun K71 hK71 => ?_)
           refine wp_region_lit ?_
           refine seq_do hA rfl rfl rfl (d_loadS hS SmG_isS_26 rfl 0 rfl (cs := [.bool ((rb (P * u).num)), .slice J61 ((words (P * u).num.natAbs).length) J62, .slice J63 ((words (P * u).den).length) J64, .bool false, .slice p29_3 0 p29_c3, .slice p29_4 1 p29_c4]) rfl rfl) ?_
           intro a hA
           rcases Bool.eq_false_or_eq_true (decide (¬ (fitR (P * u) ∧ fitR 0))) with hb72 | hb72
           · have hb72' := of_decide_eq_true hb72
             refine seq_call hA rfl rfl rfl (enters_func  rfl rfl (fun w => by kernel_rfl)) (rlarge0_any (show Nm _ (Q6.real (P * u)) J61 J62 J63 J64 p29_3 p29_c3 p29_4 p29_c4 from ⟨⟨(hS.rd 1 rfl), hn67, hc68⟩, ⟨(hS.rd 0 rfl), hn65, hc66⟩, ⟨(hS.rd 5 rfl), hn30.s3.nil, hn30.s3.cap⟩, ⟨(hS.rd 4 rfl), hn30.s4.nil, hn30.s4.cap⟩⟩) LPu hb72) ?_
             rintro _ w74 ⟨rfl, hb73⟩
             replace hS := hS.call hb73
             refine ⟨_, rfl, ?_⟩
             intro a hA
             refine seq_end ?_
             refine hK71 _ _ ?_
             refine wp_cond_true (hA.ev rfl) ?_
             refine wp_seq_k (fun K75 hK75 => ?_)
             refine wp_region_lit ?_
             refine seq_do (v := .agg #[.bool false, .slice none 0 0, .slice none 0 0, .bool false, .slice none 0 0, .slice none 0 0]) hA rfl rfl rfl (d_build rfl (fun w => by kernel_rfl)) ?_
             intro a hA
             refine seq_store (us := [.bool false, .slice none 0 0, .slice none 0 0, .bool false, .slice none 0 0, .slice none 0 0]) hA hS rfl rfl (sets_store rfl rfl rfl (by kernel_rfl) hS 1 rfl rfl rfl) 1 rfl rfl rfl rfl ?_
             intro w76 hS
             refine seq_do hA rfl rfl rfl (d_assign rfl) ?_
             intro a hA
             refine seq_end ?_
             refine hK75 _ _ ?_
             refine wp_ret ?_
             refine hret _ _ ?_
             refine ends (v := .tuple #[.agg #[.bool false, .slice none 0 0, .slice none 0 0, .bool false, .slice none 0 0, .slice none 0 0], .int .i64 4]) hA rfl (.cons (res_cell hS SmG_isS_26 rfl 1 rfl (cs := [.bool false, .slice none 0 0, .slice none 0 0, .bool false, .slice none 0 0, .slice none 0 0]) rfl rfl) (.cons (res_tmp rfl) .nil)) rfl ?_
             rw [ex_stop hu hv hN h1 h2 hz (pwB_stop (k := i + 1) (by omega) (by have h7 := of_decide_eq_true hb72; rw [hs9]; exact h7))]
             exact ⟨none, 0, none, 0, none, 0, none, 0, rfl, ⟨(Sc.none _), (Sc.none _), (Sc.none _), (Sc.none _)⟩, hS.bel⟩
           · have hb72' := of_decide_eq_false hb72
             refine seq_call hA rfl rfl rfl (enters_func  rfl rfl (fun w => by kernel_rfl)) (rlarge0_any (show Nm _ (Q6.real (P * u)) J61 J62 J63 J64 p29_3 p29_c3 p29_4 p29_c4 from ⟨⟨(hS.rd 1 rfl), hn67, hc68⟩, ⟨(hS.rd 0 rfl), hn65, hc66⟩, ⟨(hS.rd 5 rfl), hn30.s3.nil, hn30.s3.cap⟩, ⟨(hS.rd 4 rfl), hn30.s4.nil, hn30.s4.cap⟩⟩) LPu hb72) ?_
             rintro _ w78 ⟨rfl, hb77⟩
             replace hS := hS.call hb77
             refine ⟨_, rfl, ?_⟩
             intro a hA
             refine seq_end ?_
             refine hK71 _ _ ?_
             refine wp_cond_false (hA.ev rfl) ?_
             refine wp_skip ?_
             refine hK44 _ _ ?_
             refine wp_region_lit ?_
             refine seq_do hA rfl rfl rfl (d_move rfl) ?_
             intro a hA
             refine seq_do (v := .int .i64 (((i + 1 : Nat) : Int))) hA rfl rfl rfl (d_bin rfl rfl (fun w => (bin_add (i64In (by omega) (by omega)) w).trans (by rw [show (((i : Nat) : Int) + 1 : Int) = ((i + 1 : Nat) : Int) from by omega]))) ?_
             intro a hA
             refine seq_do hA rfl rfl rfl (d_assign rfl) ?_
             intro a hA
             refine seq_end ?_
             refine hK39 _ _ _ (by omega) ⟨i + 1, (P * u), J61, J62, J63, J64, rfl, ⟨by omega, hs9, pwB_step hB9 (by rw [hs9]; exact (Decidable.not_not.1 (of_decide_eq_false hb72)).1) (by rw [hs9]; exact fit_zero), fit_lenR (Decidable.not_not.1 (of_decide_eq_false hb72)).1, hPu, (by rw [hPu]; exact pow_num_ne (by have h7 := of_decide_eq_true hsu; omega) _), ⟨hn67, hc68⟩, ⟨hn65, hc66⟩⟩, hA.keep _ ⟨rfl, rfl, rfl, rfl, rfl, rfl, rfl, rfl, rfl, rfl, rfl, rfl, rfl, rfl, rfl, rfl, rfl, rfl, rfl, rfl, rfl, rfl, trivial⟩, ((hS.pickR [(J61, words (P * u).num.natAbs), (J63, words (P * u).den), (p29_4, [1]), (p29_3, []), (p29_2, words (1 : Rat).den), (p29_1, words (1 : Rat).num.natAbs), (a4, words v.den), (a3, words v.num.natAbs), (a2, words u.den), (a1, words u.num.natAbs)] ⟨⟨1, rfl⟩, ⟨⟨0, rfl⟩, ⟨⟨4, rfl⟩, ⟨⟨5, rfl⟩, ⟨⟨6, rfl⟩, ⟨⟨7, rfl⟩, ⟨⟨8, rfl⟩, ⟨⟨9, rfl⟩, ⟨⟨10, rfl⟩, ⟨⟨11, rfl⟩, trivial⟩⟩⟩⟩⟩⟩⟩⟩⟩⟩).subL _ (.refl _))⟩
         refine wp_draw (S := fun w1 => St w w1 [(g4, [.bool false, .slice none 0 0, .slice none 0 0, .bool false, .slice none 0 0, .slice none 0 0]), (g2, [.bool (rb u.num), .slice a1 ((words u.num.natAbs).length) ac1, .slice a2 ((words u.den).length) ac2, .bool (rb v.num), .slice a3 ((words v.num.natAbs).length) ac3, .slice a4 ((words v.den).length) ac4])] [(po1, words P.num.natAbs), (po2, words P.den), (p29_4, [1]), (p29_3, []), (p29_2, words (1 : Rat).den), (p29_1, words (1 : Rat).num.natAbs), (a4, words v.den), (a3, words v.num.natAbs), (a2, words u.den), (a1, words u.num.natAbs)] []) (by kernel_rfl) ?_
         replace hS := hS.drew
         refine any_tk (v := .pointer (some ⟨g33, 0, none⟩)) hA 0 rfl rfl rfl rfl hP (hS.partD (.cons _ (.cons_cons _ (.cons_cons _ .slnil))) 0 rfl (.refl _)) (fun w1 hS => d_field SmG_fld_26_0 rfl rfl) ?_
         intro a hA
         refine any_tk (v := .pointer (some ⟨g33, 0, none⟩)) hA 1 rfl rfl rfl rfl hP (hS.partD (.cons _ (.cons_cons _ (.cons_cons _ .slnil))) 0 rfl (.refl _)) (fun w1 hS => d_field SmG_fld_24_0 rfl rfl) ?_
         intro a hA
         refine any_tk (v := .pointer (some ⟨g2, 0, none⟩)) hA 3 rfl rfl rfl rfl hP (hS.partD (.cons _ (.cons_cons _ (.cons_cons _ .slnil))) 0 rfl (.refl _)) (fun w1 hS => d_field SmG_fld_26_0 rfl rfl) ?_
         intro a hA
         refine any_tk (v := .pointer (some ⟨g2, 0, none⟩)) hA 4 rfl rfl rfl rfl hP (hS.partD (.cons _ (.cons_cons _ (.cons_cons _ .slnil))) 0 rfl (.refl _)) (fun w1 hS => d_field SmG_fld_24_0 rfl rfl) ?_
         intro a hA
         refine any_tk hA 5 rfl rfl rfl rfl hP (hS.partD (.cons _ (.cons_cons _ (.cons_cons _ .slnil))) 0 rfl (.refl _)) (fun w1 hS => d_load1 hS SmG_is1_4 rfl 1 rfl rfl) ?_
         intro a hA
         refine any_tk (v := .pointer (some ⟨g33, 0, none⟩)) hA 14 rfl rfl rfl rfl hP (hS.partD (.cons _ (.cons_cons _ (.cons_cons _ .slnil))) 0 rfl (.refl _)) (fun w1 hS => d_field SmG_fld_26_0 rfl rfl) ?_
         intro a hA
         refine any_tk (v := .pointer (some ⟨g33, 1, none⟩)) hA 15 rfl rfl rfl rfl hP (hS.partD (.cons _ (.cons_cons _ (.cons_cons _ .slnil))) 0 rfl (.refl _)) (fun w1 hS => d_field SmG_fld_24_1 rfl rfl) ?_
         intro a hA
         refine any_tk (v := .pointer (some ⟨g2, 0, none⟩)) hA 17 rfl rfl rfl rfl hP (hS.partD (.cons _ (.cons_cons _ (.cons_cons _ .slnil))) 0 rfl (.refl _)) (fun w1 hS => d_field SmG_fld_26_0 rfl rfl) ?_
         intro a hA
         refine any_tk (v := .pointer (some ⟨g2, 1, none⟩)) hA 18 rfl rfl rfl rfl hP (hS.partD (.cons _ (.cons_cons _ (.cons_cons _ .slnil))) 0 rfl (.refl _)) (fun w1 hS => d_field SmG_fld_24_1 rfl rfl) ?_
         intro a hA
         refine any_tk hA 19 rfl rfl rfl rfl hP (hS.partD (.cons _ (.cons_cons _ (.cons_cons _ .slnil))) 0 rfl (.refl _)) (fun w1 hS => d_load1 hS SmG_is1_22 rfl 1 rfl rfl) ?_
         intro a hA
         refine any_tk (v := .pointer (some ⟨g33, 0, none⟩)) hA 21 rfl rfl rfl rfl hP (hS.partD (.cons _ (.cons_cons _ (.cons_cons _ .slnil))) 0 rfl (.refl _)) (fun w1 hS => d_field SmG_fld_26_0 rfl rfl) ?_
         intro a hA
         refine any_tk (v := .pointer (some ⟨g33, 2, none⟩)) hA 22 rfl rfl rfl rfl hP (hS.partD (.cons _ (.cons_cons _ (.cons_cons _ .slnil))) 0 rfl (.refl _)) (fun w1 hS => d_field SmG_fld_24_2 rfl rfl) ?_
         intro a hA
         refine any_tk (v := .pointer (some ⟨g2, 0, none⟩)) hA 24 rfl rfl rfl rfl hP (hS.partD (.cons _ (.cons_cons _ (.cons_cons _ .slnil))) 0 rfl (.refl _)) (fun w1 hS => d_field SmG_fld_26_0 rfl rfl) ?_
         intro a hA
         refine any_tk (v := .pointer (some ⟨g2, 2, none⟩)) hA 25 rfl rfl rfl rfl hP (hS.partD (.cons _ (.cons_cons _ (.cons_cons _ .slnil))) 0 rfl (.refl _)) (fun w1 hS => d_field SmG_fld_24_2 rfl rfl) ?_
         intro a hA
         refine any_tk hA 26 rfl rfl rfl rfl hP (hS.partD (.cons _ (.cons_cons _ (.cons_cons _ .slnil))) 0 rfl (.refl _)) (fun w1 hS => d_load1 hS SmG_is1_22 rfl 1 rfl rfl) ?_
         intro a hA
         refine any_many (rs := [2, 16, 23]) (by kernel_rfl) (by simp) ⟨?_, ?_, ?_, trivial⟩
         · refine op_do hA 2 rfl rfl rfl rfl (d_load1 hS SmG_is1_4 rfl 0 rfl rfl) (hS.partD (.cons _ (.cons_cons _ (.cons_cons _ .slnil))) 0 rfl (.refl _)) ?_
           intro a hA
           refine any_tk (v := .bool false) hA 6 rfl rfl rfl rfl hP (hS.partD (.cons _ (.cons_cons _ (.cons_cons _ .slnil))) 0 rfl (.refl _)) (fun w1 hS => d_bin rfl rfl (fun w => ((bin_neqB Tryz.underlying4) w).trans (by rw [show (!((rb P.num) == rb u.num)) = false from (by rw [hb47, hsu]; rfl)]))) ?_
           intro a hA
           refine any_tk hA 7 rfl rfl rfl rfl hP (hS.partD (.cons _ (.cons_cons _ (.cons_cons _ .slnil))) 0 rfl (.refl _)) (fun w1 hS => d_move rfl) ?_
           intro a hA
           refine any_sk hA 8 rfl rfl rfl rfl hP (hS.partD (.cons _ (.cons_cons _ (.cons_cons _ .slnil))) 0 rfl (.refl _)) ?_
           intro a hA
           refine any_sk hA 9 rfl rfl rfl rfl hP (hS.partD (.cons _ (.cons_cons _ (.cons_cons _ .slnil))) 0 rfl (.refl _)) ?_
           intro a hA
           refine any_sk hA 10 rfl rfl rfl rfl hP (hS.partD (.cons _ (.cons_cons _ (.cons_cons _ .slnil))) 0 rfl (.refl _)) ?_
           intro a hA
           refine any_sk hA 11 rfl rfl rfl rfl hP (hS.partD (.cons _ (.cons_cons _ (.cons_cons _ .slnil))) 0 rfl (.refl _)) ?_
           intro a hA
           refine any_sk hA 12 rfl rfl rfl rfl hP (hS.partD (.cons _ (.cons_cons _ (.cons_cons _ .slnil))) 0 rfl (.refl _)) ?_
           intro a hA
           refine any_tk (v := .bool ((rb (P * u).num))) hA 13 rfl rfl rfl rfl hP (hS.partD (.cons _ (.cons_cons _ (.cons_cons _ .slnil))) 0 rfl (.refl _)) (fun w1 hS => d_pick rfl rfl rfl (by rw [hsg9, hb47]; rfl)) ?_
           intro a hA
           refine any_many (rs := [16, 23]) (by kernel_rfl) (by simp) ⟨?_, ?_, trivial⟩
           · refine op_do hA 16 rfl rfl rfl rfl (d_load1 hS SmG_is1_22 rfl 0 rfl rfl) (hS.partD (.cons _ (.cons_cons _ (.cons_cons _ .slnil))) 0 rfl (.refl _)) ?_
             intro a hA
             refine any_many (rs := [20, 23]) (by kernel_rfl) (by simp) ⟨?_, ?_, trivial⟩
             · refine op_call hA 20 rfl rfl rfl rfl (enters_func  rfl rfl (fun w => by kernel_rfl)) (rtimes_as hn9 _ _ (hS.rd 0 rfl) (hS.rd 9 rfl) (by omega) (by omega)) ?_
               rintro _ w83 ⟨ro79, rc80, rfl, ho81, hb82⟩
               replace hS := hS.call hb82
               replace hS := hS.addR ho81.rd
               refine ⟨_, rfl, (hS.partD (.cons _ (.cons_cons _ (.cons_cons _ .slnil))) 1 rfl (.refl _)), ?_⟩
               intro a hA
               refine any_one (by kernel_rfl) (op_do hA 23 rfl rfl rfl rfl (d_load1 hS SmG_is1_22 rfl 0 rfl rfl) (hS.partD (.cons _ (.cons_cons _ (.cons_cons _ .slnil))) 1 rfl (.refl _)) ?_)
               intro a hA
               refine any_one (by kernel_rfl) (op_call hA 27 rfl rfl rfl rfl (enters_func  rfl rfl (fun w => by kernel_rfl)) (rtimes_as hd9 _ _ (hS.rd 2 rfl) (hS.rd 9 rfl) (by omega) (by omega)) ?_)
               rintro _ w88 ⟨ro84, rc85, rfl, ho86, hb87⟩
               replace hS := hS.call hb87
               replace hS := hS.addR ho86.rd
               refine ⟨_, rfl, (hS.partD (.cons _ (.cons_cons _ (.cons_cons _ .slnil))) 2 rfl (.refl _)), ?_⟩
               intro a hA
               refine any_tk (v := .agg #[.bool ((rb (P * u).num)), .slice ro79 ((words (P * u).num.natAbs).length) rc80, .slice ro84 ((words (P * u).den).length) rc85]) hA 28 rfl rfl rfl rfl hP (hS.partD (.cons _ (.cons_cons _ (.cons_cons _ .slnil))) 2 rfl (.refl _)) (fun w1 hS => d_build rfl (fun w => by kernel_rfl)) ?_
               intro a hA
               refine any_tk (v := .pointer (some ⟨g33, 0, none⟩)) hA 29 rfl rfl rfl rfl hP (hS.partD (.cons _ (.cons_cons _ (.cons_cons _ .slnil))) 2 rfl (.refl _)) (fun w1 hS => d_field SmG_fld_26_0 rfl rfl) ?_
               intro a hA
               refine any_one (by kernel_rfl) (op_store (us := [.bool ((rb (P * u).num)), .slice ro79 ((words (P * u).num.natAbs).length) rc80, .slice ro84 ((words (P * u).den).length) rc85, .bool false, .slice p29_3 0 p29_c3, .slice p29_4 1 p29_c4]) hA hS 30 rfl rfl rfl (sets_store rfl rfl rfl (by kernel_rfl) hS 0 rfl rfl rfl) 0 rfl rfl rfl rfl ?_)
               intro w89 hS
               refine ⟨(hS.partD (.cons _ (.cons_cons _ (.cons_cons _ .slnil))) 2 rfl (.refl _)), ?_⟩
               refine any_end (by kernel_rfl) ?_
               refine hJ69 _ _ ⟨ro79, rc80, ro84, rc85, hA.keep _ ⟨rfl, rfl, rfl, rfl, rfl, rfl, rfl, rfl, rfl, rfl, rfl, rfl, rfl, rfl, rfl, rfl, rfl, rfl, rfl, rfl, rfl, rfl, rfl, rfl, rfl, rfl, rfl, trivial⟩, (St.pickRL hS ⟨⟨0, rfl⟩, ⟨⟨1, rfl⟩, ⟨⟨2, rfl⟩, ⟨⟨3, rfl⟩, ⟨⟨4, rfl⟩, ⟨⟨5, rfl⟩, ⟨⟨6, rfl⟩, ⟨⟨7, rfl⟩, ⟨⟨8, rfl⟩, ⟨⟨9, rfl⟩, ⟨⟨10, rfl⟩, ⟨⟨11, rfl⟩, trivial⟩⟩⟩⟩⟩⟩⟩⟩⟩⟩⟩⟩ [0, 1, 2] rfl (by decide)), ho86.nocap, ho86.caps, ho81.nocap, ho81.caps⟩
             · refine op_do hA 23 rfl rfl rfl rfl (d_load1 hS SmG_is1_22 rfl 0 rfl rfl) (hS.partD (.cons _ (.cons_cons _ (.cons_cons _ .slnil))) 0 rfl (.refl _)) ?_
               intro a hA
               refine any_one (by kernel_rfl) (op_call hA 20 rfl rfl rfl rfl (enters_func  rfl rfl (fun w => by kernel_rfl)) (rtimes_as hn9 _ _ (hS.rd 0 rfl) (hS.rd 9 rfl) (by omega) (by omega)) ?_)
               rintro _ w94 ⟨ro90, rc91, rfl, ho92, hb93⟩
               replace hS := hS.call hb93
               replace hS := hS.addR ho92.rd
               refine ⟨_, rfl, (hS.partD (.cons _ (.cons_cons _ (.cons_cons _ .slnil))) 1 rfl (.refl _)), ?_⟩
               intro a hA
               refine any_one (by kernel_rfl) (op_call hA 27 rfl rfl rfl rfl (enters_func  rfl rfl (fun w => by kernel_rfl)) (rtimes_as hd9 _ _ (hS.rd 2 rfl) (hS.rd 9 rfl) (by omega) (by omega)) ?_)
               rintro _ w99 ⟨ro95, rc96, rfl, ho97, hb98⟩
               replace hS := hS.call hb98
               replace hS := hS.addR ho97.rd
               refine ⟨_, rfl, (hS.partD (.cons _ (.cons_cons _ (.cons_cons _ .slnil))) 2 rfl (.refl _)), ?_⟩
               intro a hA
               refine any_tk (v := .agg #[.bool ((rb (P * u).num)), .slice ro90 ((words (P * u).num.natAbs).length) rc91, .slice ro95 ((words (P * u).den).length) rc96]) hA 28 rfl rfl rfl rfl hP (hS.partD (.cons _ (.cons_cons _ (.cons_cons _ .slnil))) 2 rfl (.refl _)) (fun w1 hS => d_build rfl (fun w => by kernel_rfl)) ?_
               intro a hA
               refine any_tk (v := .pointer (some ⟨g33, 0, none⟩)) hA 29 rfl rfl rfl rfl hP (hS.partD (.cons _ (.cons_cons _ (.cons_cons _ .slnil))) 2 rfl (.refl _)) (fun w1 hS => d_field SmG_fld_26_0 rfl rfl) ?_
               intro a hA
               refine any_one (by kernel_rfl) (op_store (us := [.bool ((rb (P * u).num)), .slice ro90 ((words (P * u).num.natAbs).length) rc91, .slice ro95 ((words (P * u).den).length) rc96, .bool false, .slice p29_3 0 p29_c3, .slice p29_4 1 p29_c4]) hA hS 30 rfl rfl rfl (sets_store rfl rfl rfl (by kernel_rfl) hS 0 rfl rfl rfl) 0 rfl rfl rfl rfl ?_)
               intro w100 hS
               refine ⟨(hS.partD (.cons _ (.cons_cons _ (.cons_cons _ .slnil))) 2 rfl (.refl _)), ?_⟩
               refine any_end (by kernel_rfl) ?_
               refine hJ69 _ _ ⟨ro90, rc91, ro95, rc96, hA.keep _ ⟨rfl, rfl, rfl, rfl, rfl, rfl, rfl, rfl, rfl, rfl, rfl, rfl, rfl, rfl, rfl, rfl, rfl, rfl, rfl, rfl, rfl, rfl, rfl, rfl, rfl, rfl, rfl, trivial⟩, (St.pickRL hS ⟨⟨0, rfl⟩, ⟨⟨1, rfl⟩, ⟨⟨2, rfl⟩, ⟨⟨3, rfl⟩, ⟨⟨4, rfl⟩, ⟨⟨5, rfl⟩, ⟨⟨6, rfl⟩, ⟨⟨7, rfl⟩, ⟨⟨8, rfl⟩, ⟨⟨9, rfl⟩, ⟨⟨10, rfl⟩, ⟨⟨11, rfl⟩, trivial⟩⟩⟩⟩⟩⟩⟩⟩⟩⟩⟩⟩ [0, 1, 2] rfl (by decide)), ho97.nocap, ho97.caps, ho92.nocap, ho92.caps⟩
           · refine op_do hA 23 rfl rfl rfl rfl (d_load1 hS SmG_is1_22 rfl 0 rfl rfl) (hS.partD (.cons _ (.cons_cons _ (.cons_cons _ .slnil))) 0 rfl (.refl _)) ?_
             intro a hA
             refine any_one (by kernel_rfl) (op_do hA 16 rfl rfl rfl rfl (d_load1 hS SmG_is1_22 rfl 0 rfl rfl) (hS.partD (.cons _ (.cons_cons _ (.cons_cons _ .slnil))) 0 rfl (.refl _)) ?_)
             intro a hA
             refine any_one (by kernel_rfl) (op_call hA 20 rfl rfl rfl rfl (enters_func  rfl rfl (fun w => by kernel_rfl)) (rtimes_as hn9 _ _ (hS.rd 0 rfl) (hS.rd 9 rfl) (by omega) (by omega)) ?_)
             rintro _ w105 ⟨ro101, rc102, rfl, ho103, hb104⟩
             replace hS := hS.call hb104
             replace hS := hS.addR ho103.rd
             refine ⟨_, rfl, (hS.partD (.cons _ (.cons_cons _ (.cons_cons _ .slnil))) 1 rfl (.refl _)), ?_⟩
             intro a hA
             refine any_one (by kernel_rfl) (op_call hA 27 rfl rfl rfl rfl (enters_func  rfl rfl (fun w => by kernel_rfl)) (rtimes_as hd9 _ _ (hS.rd 2 rfl) (hS.rd 9 rfl) (by omega) (by omega)) ?_)
             rintro _ w110 ⟨ro106, rc107, rfl, ho108, hb109⟩
             replace hS := hS.call hb109
             replace hS := hS.addR ho108.rd
             refine ⟨_, rfl, (hS.partD (.cons _ (.cons_cons _ (.cons_cons _ .slnil))) 2 rfl (.refl _)), ?_⟩
             intro a hA
             refine any_tk (v := .agg #[.bool ((rb (P * u).num)), .slice ro101 ((words (P * u).num.natAbs).length) rc102, .slice ro106 ((words (P * u).den).length) rc107]) hA 28 rfl rfl rfl rfl hP (hS.partD (.cons _ (.cons_cons _ (.cons_cons _ .slnil))) 2 rfl (.refl _)) (fun w1 hS => d_build rfl (fun w => by kernel_rfl)) ?_
             intro a hA
             refine any_tk (v := .pointer (some ⟨g33, 0, none⟩)) hA 29 rfl rfl rfl rfl hP (hS.partD (.cons _ (.cons_cons _ (.cons_cons _ .slnil))) 2 rfl (.refl _)) (fun w1 hS => d_field SmG_fld_26_0 rfl rfl) ?_
             intro a hA
             refine any_one (by kernel_rfl) (op_store (us := [.bool ((rb (P * u).num)), .slice ro101 ((words (P * u).num.natAbs).length) rc102, .slice ro106 ((words (P * u).den).length) rc107, .bool false, .slice p29_3 0 p29_c3, .slice p29_4 1 p29_c4]) hA hS 30 rfl rfl rfl (sets_store rfl rfl rfl (by kernel_rfl) hS 0 rfl rfl rfl) 0 rfl rfl rfl rfl ?_)
             intro w111 hS
             refine ⟨(hS.partD (.cons _ (.cons_cons _ (.cons_cons _ .slnil))) 2 rfl (.refl _)), ?_⟩
             refine any_end (by kernel_rfl) ?_
             refine hJ69 _ _ ⟨ro101, rc102, ro106, rc107, hA.keep _ ⟨rfl, rfl, rfl, rfl, rfl, rfl, rfl, rfl, rfl, rfl, rfl, rfl, rfl, rfl, rfl, rfl, rfl, rfl, rfl, rfl, rfl, rfl, rfl, rfl, rfl, rfl, rfl, trivial⟩, (St.pickRL hS ⟨⟨0, rfl⟩, ⟨⟨1, rfl⟩, ⟨⟨2, rfl⟩, ⟨⟨3, rfl⟩, ⟨⟨4, rfl⟩, ⟨⟨5, rfl⟩, ⟨⟨6, rfl⟩, ⟨⟨7, rfl⟩, ⟨⟨8, rfl⟩, ⟨⟨9, rfl⟩, ⟨⟨10, rfl⟩, ⟨⟨11, rfl⟩, trivial⟩⟩⟩⟩⟩⟩⟩⟩⟩⟩⟩⟩ [0, 1, 2] rfl (by decide)), ho108.nocap, ho108.caps, ho103.nocap, ho103.caps⟩
         · refine op_do hA 16 rfl rfl rfl rfl (d_load1 hS SmG_is1_22 rfl 0 rfl rfl) (hS.partD (.cons _ (.cons_cons _ (.cons_cons _ .slnil))) 0 rfl (.refl _)) ?_
           intro a hA
           refine any_many (rs := [2, 23]) (by kernel_rfl) (by simp) ⟨?_, ?_, trivial⟩
           · refine op_do hA 2 rfl rfl rfl rfl (d_load1 hS SmG_is1_4 rfl 0 rfl rfl) (hS.partD (.cons _ (.cons_cons _ (.cons_cons _ .slnil))) 0 rfl (.refl _)) ?_
             intro a hA
             refine any_tk (v := .bool false) hA 6 rfl rfl rfl rfl hP (hS.partD (.cons _ (.cons_cons _ (.cons_cons _ .slnil))) 0 rfl (.refl _)) (fun w1 hS => d_bin rfl rfl (fun w => ((bin_neqB Tryz.underlying4) w).trans (by rw [show (!((rb P.num) == rb u.num)) = false from (by rw [hb47, hsu]; rfl)]))) ?_
             intro a hA
             refine any_tk hA 7 rfl rfl rfl rfl hP (hS.partD (.cons _ (.cons_cons _ (.cons_cons _ .slnil))) 0 rfl (.refl _)) (fun w1 hS => d_move rfl) ?_
             intro a hA
             refine any_sk hA 8 rfl rfl rfl rfl hP (hS.partD (.cons _ (.cons_cons _ (.cons_cons _ .slnil))) 0 rfl (.refl _)) ?_
             intro a hA
             refine any_sk hA 9 rfl rfl rfl rfl hP (hS.partD (.cons _ (.cons_cons _ (.cons_cons _ .slnil))) 0 rfl (.refl _)) ?_
             intro a hA
             refine any_sk hA 10 rfl rfl rfl rfl hP (hS.partD (.cons _ (.cons_cons _ (.cons_cons _ .slnil))) 0 rfl (.refl _)) ?_
             intro a hA
             refine any_sk hA 11 rfl rfl rfl rfl hP (hS.partD (.cons _ (.cons_cons _ (.cons_cons _ .slnil))) 0 rfl (.refl _)) ?_
             intro a hA
             refine any_sk hA 12 rfl rfl rfl rfl hP (hS.partD (.cons _ (.cons_cons _ (.cons_cons _ .slnil))) 0 rfl (.refl _)) ?_
             intro a hA
             refine any_tk (v := .bool ((rb (P * u).num))) hA 13 rfl rfl rfl rfl hP (hS.partD (.cons _ (.cons_cons _ (.cons_cons _ .slnil))) 0 rfl (.refl _)) (fun w1 hS => d_pick rfl rfl rfl (by rw [hsg9, hb47]; rfl)) ?_
             intro a hA
             refine any_many (rs := [20, 23]) (by kernel_rfl) (by simp) ⟨?_, ?_, trivial⟩
             · refine op_call hA 20 rfl rfl rfl rfl (enters_func  rfl rfl (fun w => by kernel_rfl)) (rtimes_as hn9 _ _ (hS.rd 0 rfl) (hS.rd 9 rfl) (by omega) (by omega)) ?_
               rintro _ w116 ⟨ro112, rc113, rfl, ho114, hb115⟩
               replace hS := hS.call hb115
               replace hS := hS.addR ho114.rd
               refine ⟨_, rfl, (hS.partD (.cons _ (.cons_cons _ (.cons_cons _ .slnil))) 1 rfl (.refl _)), ?_⟩
               intro a hA
               refine any_one (by kernel_rfl) (op_do hA 23 rfl rfl rfl rfl (d_load1 hS SmG_is1_22 rfl 0 rfl rfl) (hS.partD (.cons _ (.cons_cons _ (.cons_cons _ .slnil))) 1 rfl (.refl _)) ?_)
               intro a hA
               refine any_one (by kernel_rfl) (op_call hA 27 rfl rfl rfl rfl (enters_func  rfl rfl (fun w => by kernel_rfl)) (rtimes_as hd9 _ _ (hS.rd 2 rfl) (hS.rd 9 rfl) (by omega) (by omega)) ?_)
               rintro _ w121 ⟨ro117, rc118, rfl, ho119, hb120⟩
               replace hS := hS.call hb120
               replace hS := hS.addR ho119.rd
               refine ⟨_, rfl, (hS.partD (.cons _ (.cons_cons _ (.cons_cons _ .slnil))) 2 rfl (.refl _)), ?_⟩
               intro a hA
               refine any_tk (v := .agg #[.bool ((rb (P * u).num)), .slice ro112 ((words (P * u).num.natAbs).length) rc113, .slice ro117 ((words (P * u).den).length) rc118]) hA 28 rfl rfl rfl rfl hP (hS.partD (.cons _ (.cons_cons _ (.cons_cons _ .slnil))) 2 rfl (.refl _)) (fun w1 hS => d_build rfl (fun w => by kernel_rfl)) ?_
               intro a hA
               refine any_tk (v := .pointer (some ⟨g33, 0, none⟩)) hA 29 rfl rfl rfl rfl hP (hS.partD (.cons _ (.cons_cons _ (.cons_cons _ .slnil))) 2 rfl (.refl _)) (fun w1 hS => d_field SmG_fld_26_0 rfl rfl) ?_
               intro a hA
               refine any_one (by kernel_rfl) (op_store (us := [.bool ((rb (P * u).num)), .slice ro112 ((words (P * u).num.natAbs).length) rc113, .slice ro117 ((words (P * u).den).length) rc118, .bool false, .slice p29_3 0 p29_c3, .slice p29_4 1 p29_c4]) hA hS 30 rfl rfl rfl (sets_store rfl rfl rfl (by kernel_rfl) hS 0 rfl rfl rfl) 0 rfl rfl rfl rfl ?_)
               intro w122 hS
               refine ⟨(hS.partD (.cons _ (.cons_cons _ (.cons_cons _ .slnil))) 2 rfl (.refl _)), ?_⟩
               refine any_end (by kernel_rfl) ?_
               refine hJ69 _ _ ⟨ro112, rc113, ro117, rc118, hA.keep _ ⟨rfl, rfl, rfl, rfl, rfl, rfl, rfl, rfl, rfl, rfl, rfl, rfl, rfl, rfl, rfl, rfl, rfl, rfl, rfl, rfl, rfl, rfl, rfl, rfl, rfl, rfl, rfl, trivial⟩, (St.pickRL hS ⟨⟨0, rfl⟩, ⟨⟨1, rfl⟩, ⟨⟨2, rfl⟩, ⟨⟨3, rfl⟩, ⟨⟨4, rfl⟩, ⟨⟨5, rfl⟩, ⟨⟨6, rfl⟩, ⟨⟨7, rfl⟩, ⟨⟨8, rfl⟩, ⟨⟨9, rfl⟩, ⟨⟨10, rfl⟩, ⟨⟨11, rfl⟩, trivial⟩⟩⟩⟩⟩⟩⟩⟩⟩⟩⟩⟩ [0, 1, 2] rfl (by decide)), ho119.nocap, ho119.caps, ho114.nocap, ho114.caps⟩
             · refine op_do hA 23 rfl rfl rfl rfl (d_load1 hS SmG_is1_22 rfl 0 rfl rfl) (hS.partD (.cons _ (.cons_cons _ (.cons_cons _ .slnil))) 0 rfl (.refl _)) ?_
               intro a hA
               refine any_one (by kernel_rfl) (op_call hA 20 rfl rfl rfl rfl (enters_func  rfl rfl (fun w => by kernel_rfl)) (rtimes_as hn9 _ _ (hS.rd 0 rfl) (hS.rd 9 rfl) (by omega) (by omega)) ?_)
               rintro _ w127 ⟨ro123, rc124, rfl, ho125, hb126⟩
               replace hS := hS.call hb126
               replace hS := hS.addR ho125.rd
               refine ⟨_, rfl, (hS.partD (.cons _ (.cons_cons _ (.cons_cons _ .slnil))) 1 rfl (.refl _)), ?_⟩
               intro a hA
               refine any_one (by kernel_rfl) (op_call hA 27 rfl rfl rfl rfl (enters_func  rfl rfl (fun w => by kernel_rfl)) (rtimes_as hd9 _ _ (hS.rd 2 rfl) (hS.rd 9 rfl) (by omega) (by omega)) ?_)
               rintro _ w132 ⟨ro128, rc129, rfl, ho130, hb131⟩
               replace hS := hS.call hb131
               replace hS := hS.addR ho130.rd
               refine ⟨_, rfl, (hS.partD (.cons _ (.cons_cons _ (.cons_cons _ .slnil))) 2 rfl (.refl _)), ?_⟩
               intro a hA
               refine any_tk (v := .agg #[.bool ((rb (P * u).num)), .slice ro123 ((words (P * u).num.natAbs).length) rc124, .slice ro128 ((words (P * u).den).length) rc129]) hA 28 rfl rfl rfl rfl hP (hS.partD (.cons _ (.cons_cons _ (.cons_cons _ .slnil))) 2 rfl (.refl _)) (fun w1 hS => d_build rfl (fun w => by kernel_rfl)) ?_
               intro a hA
               refine any_tk (v := .pointer (some ⟨g33, 0, none⟩)) hA 29 rfl rfl rfl rfl hP (hS.partD (.cons _ (.cons_cons _ (.cons_cons _ .slnil))) 2 rfl (.refl _)) (fun w1 hS => d_field SmG_fld_26_0 rfl rfl) ?_
               intro a hA
               refine any_one (by kernel_rfl) (op_store (us := [.bool ((rb (P * u).num)), .slice ro123 ((words (P * u).num.natAbs).length) rc124, .slice ro128 ((words (P * u).den).length) rc129, .bool false, .slice p29_3 0 p29_c3, .slice p29_4 1 p29_c4]) hA hS 30 rfl rfl rfl (sets_store rfl rfl rfl (by kernel_rfl) hS 0 rfl rfl rfl) 0 rfl rfl rfl rfl ?_)
               intro w133 hS
               refine ⟨(hS.partD (.cons _ (.cons_cons _ (.cons_cons _ .slnil))) 2 rfl (.refl _)), ?_⟩
               refine any_end (by kernel_rfl) ?_
               refine hJ69 _ _ ⟨ro123, rc124, ro128, rc129, hA.keep _ ⟨rfl, rfl, rfl, rfl, rfl, rfl, rfl, rfl, rfl, rfl, rfl, rfl, rfl, rfl, rfl, rfl, rfl, rfl, rfl, rfl, rfl, rfl, rfl, rfl, rfl, rfl, rfl, trivial⟩, (St.pickRL hS ⟨⟨0, rfl⟩, ⟨⟨1, rfl⟩, ⟨⟨2, rfl⟩, ⟨⟨3, rfl⟩, ⟨⟨4, rfl⟩, ⟨⟨5, rfl⟩, ⟨⟨6, rfl⟩, ⟨⟨7, rfl⟩, ⟨⟨8, rfl⟩, ⟨⟨9, rfl⟩, ⟨⟨10, rfl⟩, ⟨⟨11, rfl⟩, trivial⟩⟩⟩⟩⟩⟩⟩⟩⟩⟩⟩⟩ [0, 1, 2] rfl (by decide)), ho130.nocap, ho130.caps, ho125.nocap, ho125.caps⟩
           · refine op_do hA 23 rfl rfl rfl rfl (d_load1 hS SmG_is1_22 rfl 0 rfl rfl) (hS.partD (.cons _ (.cons_cons _ (.cons_cons _ .slnil))) 0 rfl (.refl _)) ?_
             intro a hA
             refine any_one (by kernel_rfl) (op_do hA 2 rfl rfl rfl rfl (d_load1 hS SmG_is1_4 rfl 0 rfl rfl) (hS.partD (.cons _ (.cons_cons _ (.cons_cons _ .slnil))) 0 rfl (.refl _)) ?_)
             intro a hA
             refine any_tk (v := .bool false) hA 6 rfl rfl rfl rfl hP (hS.partD (.cons _ (.cons_cons _ (.cons_cons _ .slnil))) 0 rfl (.refl _)) (fun w1 hS => d_bin rfl rfl (fun w => ((bin_neqB Tryz.underlying4) w).trans (by rw [show (!((rb P.num) == rb u.num)) = false from (by rw [hb47, hsu]; rfl)]))) ?_
             intro a hA
             refine any_tk hA 7 rfl rfl rfl rfl hP (hS.partD (.cons _ (.cons_cons _ (.cons_cons _ .slnil))) 0 rfl (.refl _)) (fun w1 hS => d_move rfl) ?_
             intro a hA
             refine any_sk hA 8 rfl rfl rfl rfl hP (hS.partD (.cons _ (.cons_cons _ (.cons_cons _ .slnil))) 0 rfl (.refl _)) ?_
             intro a hA
             refine any_sk hA 9 rfl rfl rfl rfl hP (hS.partD (.cons _ (.cons_cons _ (.cons_cons _ .slnil))) 0 rfl (.refl _)) ?_
             intro a hA
             refine any_sk hA 10 rfl rfl rfl rfl hP (hS.partD (.cons _ (.cons_cons _ (.cons_cons _ .slnil))) 0 rfl (.refl _)) ?_
             intro a hA
             refine any_sk hA 11 rfl rfl rfl rfl hP (hS.partD (.cons _ (.cons_cons _ (.cons_cons _ .slnil))) 0 rfl (.refl _)) ?_
             intro a hA
             refine any_sk hA 12 rfl rfl rfl rfl hP (hS.partD (.cons _ (.cons_cons _ (.cons_cons _ .slnil))) 0 rfl (.refl _)) ?_
             intro a hA
             refine any_tk (v := .bool ((rb (P * u).num))) hA 13 rfl rfl rfl rfl hP (hS.partD (.cons _ (.cons_cons _ (.cons_cons _ .slnil))) 0 rfl (.refl _)) (fun w1 hS => d_pick rfl rfl rfl (by rw [hsg9, hb47]; rfl)) ?_
             intro a hA
             refine any_one (by kernel_rfl) (op_call hA 20 rfl rfl rfl rfl (enters_func  rfl rfl (fun w => by kernel_rfl)) (rtimes_as hn9 _ _ (hS.rd 0 rfl) (hS.rd 9 rfl) (by omega) (by omega)) ?_)
             rintro _ w138 ⟨ro134, rc135, rfl, ho136, hb137⟩
             replace hS := hS.call hb137
             replace hS := hS.addR ho136.rd
             refine ⟨_, rfl, (hS.partD (.cons _ (.cons_cons _ (.cons_cons _ .slnil))) 1 rfl (.refl _)), ?_⟩
             intro a hA
             refine any_one (by kernel_rfl) (op_call hA 27 rfl rfl rfl rfl (enters_func  rfl rfl (fun w => by kernel_rfl)) (rtimes_as hd9 _ _ (hS.rd 2 rfl) (hS.rd 9 rfl) (by omega) (by omega)) ?_)
             rintro _ w143 ⟨ro139, rc140, rfl, ho141, hb142⟩
             replace hS := hS.call hb142
             replace hS := hS.addR ho141.rd
             refine ⟨_, rfl, (hS.partD (.cons _ (.cons_cons _ (.cons_cons _ .slnil))) 2 rfl (.refl _)), ?_⟩
             intro a hA
             refine any_tk (v := .agg #[.bool ((rb (P * u).num)), .slice ro134 ((words (P * u).num.natAbs).length) rc135, .slice ro139 ((words (P * u).den).length) rc140]) hA 28 rfl rfl rfl rfl hP (hS.partD (.cons _ (.cons_cons _ (.cons_cons _ .slnil))) 2 rfl (.refl _)) (fun w1 hS => d_build rfl (fun w => by kernel_rfl)) ?_
             intro a hA
             refine any_tk (v := .pointer (some ⟨g33, 0, none⟩)) hA 29 rfl rfl rfl rfl hP (hS.partD (.cons _ (.cons_cons _ (.cons_cons _ .slnil))) 2 rfl (.refl _)) (fun w1 hS => d_field SmG_fld_26_0 rfl rfl) ?_
             intro a hA
             refine any_one (by kernel_rfl) (op_store (us := [.bool ((rb (P * u).num)), .slice ro134 ((words (P * u).num.natAbs).length) rc135, .slice ro139 ((words (P * u).den).length) rc140, .bool false, .slice p29_3 0 p29_c3, .slice p29_4 1 p29_c4]) hA hS 30 rfl rfl rfl (sets_store rfl rfl rfl (by kernel_rfl) hS 0 rfl rfl rfl) 0 rfl rfl rfl rfl ?_)
             intro w144 hS
             refine ⟨(hS.partD (.cons _ (.cons_cons _ (.cons_cons _ .slnil))) 2 rfl (.refl _)), ?_⟩
             refine any_end (by kernel_rfl) ?_
             refine hJ69 _ _ ⟨ro134, rc135, ro139, rc140, hA.keep _ ⟨rfl, rfl, rfl, rfl, rfl, rfl, rfl, rfl, rfl, rfl, rfl, rfl, rfl, rfl, rfl, rfl, rfl, rfl, rfl, rfl, rfl, rfl, rfl, rfl, rfl, rfl, rfl, trivial⟩, (St.pickRL hS ⟨⟨0, rfl⟩, ⟨⟨1, rfl⟩, ⟨⟨2, rfl⟩, ⟨⟨3, rfl⟩, ⟨⟨4, rfl⟩, ⟨⟨5, rfl⟩, ⟨⟨6, rfl⟩, ⟨⟨7, rfl⟩, ⟨⟨8, rfl⟩, ⟨⟨9, rfl⟩, ⟨⟨10, rfl⟩, ⟨⟨11, rfl⟩, trivial⟩⟩⟩⟩⟩⟩⟩⟩⟩⟩⟩⟩ [0, 1, 2] rfl (by decide)), ho141.nocap, ho141.caps, ho136.nocap, ho136.caps⟩
         · refine op_do hA 23 rfl rfl rfl rfl (d_load1 hS SmG_is1_22 rfl 0 rfl rfl) (hS.partD (.cons _ (.cons_cons _ (.cons_cons _ .slnil))) 0 rfl (.refl _)) ?_
           intro a hA
           refine any_many (rs := [2, 16]) (by kernel_rfl) (by simp) ⟨?_, ?_, trivial⟩
           · refine op_do hA 2 rfl rfl rfl rfl (d_load1 hS SmG_is1_4 rfl 0 rfl rfl) (hS.partD (.cons _ (.cons_cons _ (.cons_cons _ .slnil))) 0 rfl (.refl _)) ?_
             intro a hA
             refine any_tk (v := .bool false) hA 6 rfl rfl rfl rfl hP (hS.partD (.cons _ (.cons_cons _ (.cons_cons _ .slnil))) 0 rfl (.refl _)) (fun w1 hS => d_bin rfl rfl (fun w => ((bin_neqB Tryz.underlying4) w).trans (by rw [show (!((rb P.num) == rb u.num)) = false from (by rw [hb47, hsu]; rfl)]))) ?_
             intro a hA
             refine any_tk hA 7 rfl rfl rfl rfl hP (hS.partD (.cons _ (.cons_cons _ (.cons_cons _ .slnil))) 0 rfl (.refl _)) (fun w1 hS => d_move rfl) ?_
             intro a hA
             refine any_sk hA 8 rfl rfl rfl rfl hP (hS.partD (.cons _ (.cons_cons _ (.cons_cons _ .slnil))) 0 rfl (.refl _)) ?_
             intro a hA
             refine any_sk hA 9 rfl rfl rfl rfl hP (hS.partD (.cons _ (.cons_cons _ (.cons_cons _ .slnil))) 0 rfl (.refl _)) ?_
             intro a hA
             refine any_sk hA 10 rfl rfl rfl rfl hP (hS.partD (.cons _ (.cons_cons _ (.cons_cons _ .slnil))) 0 rfl (.refl _)) ?_
             intro a hA
             refine any_sk hA 11 rfl rfl rfl rfl hP (hS.partD (.cons _ (.cons_cons _ (.cons_cons _ .slnil))) 0 rfl (.refl _)) ?_
             intro a hA
             refine any_sk hA 12 rfl rfl rfl rfl hP (hS.partD (.cons _ (.cons_cons _ (.cons_cons _ .slnil))) 0 rfl (.refl _)) ?_
             intro a hA
             refine any_tk (v := .bool ((rb (P * u).num))) hA 13 rfl rfl rfl rfl hP (hS.partD (.cons _ (.cons_cons _ (.cons_cons _ .slnil))) 0 rfl (.refl _)) (fun w1 hS => d_pick rfl rfl rfl (by rw [hsg9, hb47]; rfl)) ?_
             intro a hA
             refine any_one (by kernel_rfl) (op_do hA 16 rfl rfl rfl rfl (d_load1 hS SmG_is1_22 rfl 0 rfl rfl) (hS.partD (.cons _ (.cons_cons _ (.cons_cons _ .slnil))) 0 rfl (.refl _)) ?_)
             intro a hA
             refine any_one (by kernel_rfl) (op_call hA 20 rfl rfl rfl rfl (enters_func  rfl rfl (fun w => by kernel_rfl)) (rtimes_as hn9 _ _ (hS.rd 0 rfl) (hS.rd 9 rfl) (by omega) (by omega)) ?_)
             rintro _ w149 ⟨ro145, rc146, rfl, ho147, hb148⟩
             replace hS := hS.call hb148
             replace hS := hS.addR ho147.rd
             refine ⟨_, rfl, (hS.partD (.cons _ (.cons_cons _ (.cons_cons _ .slnil))) 1 rfl (.refl _)), ?_⟩
             intro a hA
             refine any_one (by kernel_rfl) (op_call hA 27 rfl rfl rfl rfl (enters_func  rfl rfl (fun w => by kernel_rfl)) (rtimes_as hd9 _ _ (hS.rd 2 rfl) (hS.rd 9 rfl) (by omega) (by omega)) ?_)
             rintro _ w154 ⟨ro150, rc151, rfl, ho152, hb153⟩
             replace hS := hS.call hb153
             replace hS := hS.addR ho152.rd
             refine ⟨_, rfl, (hS.partD (.cons _ (.cons_cons _ (.cons_cons _ .slnil))) 2 rfl (.refl _)), ?_⟩
             intro a hA
             refine any_tk (v := .agg #[.bool ((rb (P * u).num)), .slice ro145 ((words (P * u).num.natAbs).length) rc146, .slice ro150 ((words (P * u).den).length) rc151]) hA 28 rfl rfl rfl rfl hP (hS.partD (.cons _ (.cons_cons _ (.cons_cons _ .slnil))) 2 rfl (.refl _)) (fun w1 hS => d_build rfl (fun w => by kernel_rfl)) ?_
             intro a hA
             refine any_tk (v := .pointer (some ⟨g33, 0, none⟩)) hA 29 rfl rfl rfl rfl hP (hS.partD (.cons _ (.cons_cons _ (.cons_cons _ .slnil))) 2 rfl (.refl _)) (fun w1 hS => d_field SmG_fld_26_0 rfl rfl) ?_
             intro a hA
             refine any_one (by kernel_rfl) (op_store (us := [.bool ((rb (P * u).num)), .slice ro145 ((words (P * u).num.natAbs).length) rc146, .slice ro150 ((words (P * u).den).length) rc151, .bool false, .slice p29_3 0 p29_c3, .slice p29_4 1 p29_c4]) hA hS 30 rfl rfl rfl (sets_store rfl rfl rfl (by kernel_rfl) hS 0 rfl rfl rfl) 0 rfl rfl rfl rfl ?_)
             intro w155 hS
             refine ⟨(hS.partD (.cons _ (.cons_cons _ (.cons_cons _ .slnil))) 2 rfl (.refl _)), ?_⟩
             refine any_end (by kernel_rfl) ?_
             refine hJ69 _ _ ⟨ro145, rc146, ro150, rc151, hA.keep _ ⟨rfl, rfl, rfl, rfl, rfl, rfl, rfl, rfl, rfl, rfl, rfl, rfl, rfl, rfl, rfl, rfl, rfl, rfl, rfl, rfl, rfl, rfl, rfl, rfl, rfl, rfl, rfl, trivial⟩, (St.pickRL hS ⟨⟨0, rfl⟩, ⟨⟨1, rfl⟩, ⟨⟨2, rfl⟩, ⟨⟨3, rfl⟩, ⟨⟨4, rfl⟩, ⟨⟨5, rfl⟩, ⟨⟨6, rfl⟩, ⟨⟨7, rfl⟩, ⟨⟨8, rfl⟩, ⟨⟨9, rfl⟩, ⟨⟨10, rfl⟩, ⟨⟨11, rfl⟩, trivial⟩⟩⟩⟩⟩⟩⟩⟩⟩⟩⟩⟩ [0, 1, 2] rfl (by decide)), ho152.nocap, ho152.caps, ho147.nocap, ho147.caps⟩
           · refine op_do hA 16 rfl rfl rfl rfl (d_load1 hS SmG_is1_22 rfl 0 rfl rfl) (hS.partD (.cons _ (.cons_cons _ (.cons_cons _ .slnil))) 0 rfl (.refl _)) ?_
             intro a hA
             refine any_one (by kernel_rfl) (op_do hA 2 rfl rfl rfl rfl (d_load1 hS SmG_is1_4 rfl 0 rfl rfl) (hS.partD (.cons _ (.cons_cons _ (.cons_cons _ .slnil))) 0 rfl (.refl _)) ?_)
             intro a hA
             refine any_tk (v := .bool false) hA 6 rfl rfl rfl rfl hP (hS.partD (.cons _ (.cons_cons _ (.cons_cons _ .slnil))) 0 rfl (.refl _)) (fun w1 hS => d_bin rfl rfl (fun w => ((bin_neqB Tryz.underlying4) w).trans (by rw [show (!((rb P.num) == rb u.num)) = false from (by rw [hb47, hsu]; rfl)]))) ?_
             intro a hA
             refine any_tk hA 7 rfl rfl rfl rfl hP (hS.partD (.cons _ (.cons_cons _ (.cons_cons _ .slnil))) 0 rfl (.refl _)) (fun w1 hS => d_move rfl) ?_
             intro a hA
             refine any_sk hA 8 rfl rfl rfl rfl hP (hS.partD (.cons _ (.cons_cons _ (.cons_cons _ .slnil))) 0 rfl (.refl _)) ?_
             intro a hA
             refine any_sk hA 9 rfl rfl rfl rfl hP (hS.partD (.cons _ (.cons_cons _ (.cons_cons _ .slnil))) 0 rfl (.refl _)) ?_
             intro a hA
             refine any_sk hA 10 rfl rfl rfl rfl hP (hS.partD (.cons _ (.cons_cons _ (.cons_cons _ .slnil))) 0 rfl (.refl _)) ?_
             intro a hA
             refine any_sk hA 11 rfl rfl rfl rfl hP (hS.partD (.cons _ (.cons_cons _ (.cons_cons _ .slnil))) 0 rfl (.refl _)) ?_
             intro a hA
             refine any_sk hA 12 rfl rfl rfl rfl hP (hS.partD (.cons _ (.cons_cons _ (.cons_cons _ .slnil))) 0 rfl (.refl _)) ?_
             intro a hA
             refine any_tk (v := .bool ((rb (P * u).num))) hA 13 rfl rfl rfl rfl hP (hS.partD (.cons _ (.cons_cons _ (.cons_cons _ .slnil))) 0 rfl (.refl _)) (fun w1 hS => d_pick rfl rfl rfl (by rw [hsg9, hb47]; rfl)) ?_
             intro a hA
             refine any_one (by kernel_rfl) (op_call hA 20 rfl rfl rfl rfl (enters_func  rfl rfl (fun w => by kernel_rfl)) (rtimes_as hn9 _ _ (hS.rd 0 rfl) (hS.rd 9 rfl) (by omega) (by omega)) ?_)
             rintro _ w160 ⟨ro156, rc157, rfl, ho158, hb159⟩
             replace hS := hS.call hb159
             replace hS := hS.addR ho158.rd
             refine ⟨_, rfl, (hS.partD (.cons _ (.cons_cons _ (.cons_cons _ .slnil))) 1 rfl (.refl _)), ?_⟩
             intro a hA
             refine any_one (by kernel_rfl) (op_call hA 27 rfl rfl rfl rfl (enters_func  rfl rfl (fun w => by kernel_rfl)) (rtimes_as hd9 _ _ (hS.rd 2 rfl) (hS.rd 9 rfl) (by omega) (by omega)) ?_)
             rintro _ w165 ⟨ro161, rc162, rfl, ho163, hb164⟩
             replace hS := hS.call hb164
             replace hS := hS.addR ho163.rd
             refine ⟨_, rfl, (hS.partD (.cons _ (.cons_cons _ (.cons_cons _ .slnil))) 2 rfl (.refl _)), ?_⟩
             intro a hA
             refine any_tk (v := .agg #[.bool ((rb (P * u).num)), .slice ro156 ((words (P * u).num.natAbs).length) rc157, .slice ro161 ((words (P * u).den).length) rc162]) hA 28 rfl rfl rfl rfl hP (hS.partD (.cons _ (.cons_cons _ (.cons_cons _ .slnil))) 2 rfl (.refl _)) (fun w1 hS => d_build rfl (fun w => by kernel_rfl)) ?_
             intro a hA
             refine any_tk (v := .pointer (some ⟨g33, 0, none⟩)) hA 29 rfl rfl rfl rfl hP (hS.partD (.cons _ (.cons_cons _ (.cons_cons _ .slnil))) 2 rfl (.refl _)) (fun w1 hS => d_field SmG_fld_26_0 rfl rfl) ?_
             intro a hA
             refine any_one (by kernel_rfl) (op_store (us := [.bool ((rb (P * u).num)), .slice ro156 ((words (P * u).num.natAbs).length) rc157, .slice ro161 ((words (P * u).den).length) rc162, .bool false, .slice p29_3 0 p29_c3, .slice p29_4 1 p29_c4]) hA hS 30 rfl rfl rfl (sets_store rfl rfl rfl (by kernel_rfl) hS 0 rfl rfl rfl) 0 rfl rfl rfl rfl ?_)
             intro w166 hS
             refine ⟨(hS.partD (.cons _ (.cons_cons _ (.cons_cons _ .slnil))) 2 rfl (.refl _)), ?_⟩
             refine any_end (by kernel_rfl) ?_
             refine hJ69 _ _ ⟨ro156, rc157, ro161, rc162, hA.keep _ ⟨rfl, rfl, rfl, rfl, rfl, rfl, rfl, rfl, rfl, rfl, rfl, rfl, rfl, rfl, rfl, rfl, rfl, rfl, rfl, rfl, rfl, rfl, rfl, rfl, rfl, rfl, rfl, trivial⟩, (St.pickRL hS ⟨⟨0, rfl⟩, ⟨⟨1, rfl⟩, ⟨⟨2, rfl⟩, ⟨⟨3, rfl⟩, ⟨⟨4, rfl⟩, ⟨⟨5, rfl⟩, ⟨⟨6, rfl⟩, ⟨⟨7, rfl⟩, ⟨⟨8, rfl⟩, ⟨⟨9, rfl⟩, ⟨⟨10, rfl⟩, ⟨⟨11, rfl⟩, trivial⟩⟩⟩⟩⟩⟩⟩⟩⟩⟩⟩⟩ [0, 1, 2] rfl (by decide)), ho163.nocap, ho163.caps, ho158.nocap, ho158.caps⟩
       · refine seq_call hA rfl rfl rfl (enters_func  rfl rfl (fun w => by kernel_rfl)) (rrealQ_any (show Nm _ (Q6.rat u v) a1 ac1 a2 ac2 a3 ac3 a4 ac4 from ⟨⟨(hS.rd 9 rfl), ha.s1.nil, ha.s1.cap⟩, ⟨(hS.rd 8 rfl), ha.s2.nil, ha.s2.cap⟩, ⟨(hS.rd 7 rfl), ha.s3.nil, ha.s3.cap⟩, ⟨(hS.rd 6 rfl), ha.s4.nil, ha.s4.cap⟩⟩) (lenQ_rat hu hv) k2) ?_
         rintro _ w168 ⟨rfl, hb167⟩
         replace hS := hS.call hb167
         refine ⟨_, rfl, ?_⟩
         intro a hA
         refine seq_end ?_
         refine hK46 _ _ ?_
         refine wp_cond_true (hA.ev rfl) ?_
         have hJ188 : ∀ a w1, (∃ (J180 : Option Addr) (J181 : Nat) (J182 : Option Addr) (J183 : Nat), Sl a 87 [(0, .agg #[.bool (rb u.num), .slice a1 ((words u.num.natAbs).length) ac1, .slice a2 ((words u.den).length) ac2, .bool (rb v.num), .slice a3 ((words v.num.natAbs).length) ac3, .slice a4 ((words v.den).length) ac4]), (1, .int .i64 n), (2, .pointer (some ⟨g2, 0, none⟩)), (4, .pointer (some ⟨g4, 0, none⟩)), (6, .int .i64 (((N : Nat) : Int))), (7, .pointer (some ⟨g33, 0, none⟩)), (8, .int .i64 (((i : Nat) : Int))), (9, .agg #[.bool (rb u.num), .slice a1 ((words u.num.natAbs).length) ac1, .slice a2 ((words u.den).length) ac2, .bool (rb v.num), .slice a3 ((words v.num.natAbs).length) ac3, .slice a4 ((words v.den).length) ac4]), (10, .bool true), (11, .bool false), (13, .int .i64 n), (14, .bool false), (15, .bool false), (16, .int .i64 n), (17, .bool false), (18, .bool false), (20, .int .i64 n), (21, .bool false), (28, .bool false), (30, .int .i64 n), (31, .int .i64 n), (35, .agg #[.bool ((rb (1 : Rat).num)), .slice p29_1 ((words (1 : Rat).num.natAbs).length) p29_c1, .slice p29_2 ((words (1 : Rat).den).length) p29_c2, .bool false, .slice p29_3 0 p29_c3, .slice p29_4 1 p29_c4]), (36, .int .i64 (((i : Nat) : Int))), (37, .int .i64 (((N : Nat) : Int))), (38, .bool true), (41, .agg #[.bool (rb u.num), .slice a1 ((words u.num.natAbs).length) ac1, .slice a2 ((words u.den).length) ac2, .bool (rb v.num), .slice a3 ((words v.num.natAbs).length) ac3, .slice a4 ((words v.den).length) ac4]), (42, .bool true)] ∧ St w w1 [(g33, [.bool ((rb (P * u).num)), .slice J180 ((words (P * u).num.natAbs).length) J181, .slice J182 ((words (P * u).den).length) J183, .bool false, .slice p29_3 0 p29_c3, .slice p29_4 1 p29_c4]), (g4, [.bool false, .slice none 0 0, .slice none 0 0, .bool false, .slice none 0 0, .slice none 0 0]), (g2, [.bool (rb u.num), .slice a1 ((words u.num.natAbs).length) ac1, .slice a2 ((words u.den).length) ac2, .bool (rb v.num), .slice a3 ((words v.num.natAbs).length) ac3, .slice a4 ((words v.den).length) ac4])] [(J182, words (P * u).den), (J180, words (P * u).num.natAbs), (po1, words P.num.natAbs), (po2, words P.den), (p29_4, [1]), (p29_3, []), (p29_2, words (1 : Rat).den), (p29_1, words (1 : Rat).num.natAbs), (a4, words v.den), (a3, words v.num.natAbs), (a2, words u.den), (a1, words u.num.natAbs)] [] ∧ (J182 = none → J183 = 0) ∧ (words (P * u).den : List Nat).length ≤ J183 ∧ (J180 = none → J181 = 0) ∧ (words (P * u).num.natAbs : List Nat).length ≤ J181) → K45 a w1 := by
           clear hA hS
           rintro a w189 ⟨J180, J181, J182, J183, hA, hS, hn184, hc185, hn186, hc187⟩
           refine hK45 _ _ ?_
           refine wp_seq_k (fun K190 hK190 => ?_)
           refine wp_region_lit ?_
           refine seq_do hA rfl rfl rfl (d_loadS hS SmG_isS_26 rfl 0 rfl (cs := [.bool ((rb (P * u).num)), .slice J180 ((words (P * u).num.natAbs).length) J181, .slice J182 ((words (P * u).den).length) J183, .bool false, .slice p29_3 0 p29_c3, .slice p29_4 1 p29_c4]) rfl rfl) ?_
           intro a hA
           rcases Bool.eq_false_or_eq_true (decide (¬ (fitR (P * u) ∧ fitR 0))) with hb191 | hb191
           · have hb191' := of_decide_eq_true hb191
             refine seq_call hA rfl rfl rfl (enters_func  rfl rfl (fun w => by kernel_rfl)) (rlarge0_any (show Nm _ (Q6.real (P * u)) J180 J181 J182 J183 p29_3 p29_c3 p29_4 p29_c4 from ⟨⟨(hS.rd 1 rfl), hn186, hc187⟩, ⟨(hS.rd 0 rfl), hn184, hc185⟩, ⟨(hS.rd 5 rfl), hn30.s3.nil, hn30.s3.cap⟩, ⟨(hS.rd 4 rfl), hn30.s4.nil, hn30.s4.cap⟩⟩) LPu hb191) ?_
             rintro _ w193 ⟨rfl, hb192⟩
             replace hS := hS.call hb192
             refine ⟨_, rfl, ?_⟩
             intro a hA
             refine seq_end ?_
             refine hK190 _ _ ?_
             refine wp_cond_true (hA.ev rfl) ?_
             refine wp_seq_k (fun K194 hK194 => ?_)
             refine wp_region_lit ?_
             refine seq_do (v := .agg #[.bool false, .slice none 0 0, .slice none 0 0, .bool false, .slice none 0 0, .slice none 0 0]) hA rfl rfl rfl (d_build rfl (fun w => by kernel_rfl)) ?_
             intro a hA
             refine seq_store (us := [.bool false, .slice none 0 0, .slice none 0 0, .bool false, .slice none 0 0, .slice none 0 0]) hA hS rfl rfl (sets_store rfl rfl rfl (by kernel_rfl) hS 1 rfl rfl rfl) 1 rfl rfl rfl rfl ?_
             intro w195 hS
             refine seq_do hA rfl rfl rfl (d_assign rfl) ?_
             intro a hA
             refine seq_end ?_
             refine hK194 _ _ ?_
             refine wp_ret ?_
             refine hret _ _ ?_
             refine ends (v := .tuple #[.agg #[.bool false, .slice none 0 0, .slice none 0 0, .bool false, .slice none 0 0, .slice none 0 0], .int .i64 4]) hA rfl (.cons (res_cell hS SmG_isS_26 rfl 1 rfl (cs := [.bool false, .slice none 0 0, .slice none 0 0, .bool false, .slice none 0 0, .slice none 0 0]) rfl rfl) (.cons (res_tmp rfl) .nil)) rfl ?_
             rw [ex_stop hu hv hN h1 h2 hz (pwB_stop (k := i + 1) (by omega) (by have h7 := of_decide_eq_true hb191; rw [hs9]; exact h7))]
             exact ⟨none, 0, none, 0, none, 0, none, 0, rfl, ⟨(Sc.none _), (Sc.none _), (Sc.none _), (Sc.none _)⟩, hS.bel⟩
           · have hb191' := of_decide_eq_false hb191
             refine seq_call hA rfl rfl rfl (enters_func  rfl rfl (fun w => by kernel_rfl)) (rlarge0_any (show Nm _ (Q6.real (P * u)) J180 J181 J182 J183 p29_3 p29_c3 p29_4 p29_c4 from ⟨⟨(hS.rd 1 rfl), hn186, hc187⟩, ⟨(hS.rd 0 rfl), hn184, hc185⟩, ⟨(hS.rd 5 rfl), hn30.s3.nil, hn30.s3.cap⟩, ⟨(hS.rd 4 rfl), hn30.s4.nil, hn30.s4.cap⟩⟩) LPu hb191) ?_
             rintro _ w197 ⟨rfl, hb196⟩
             replace hS := hS.call hb196
             refine ⟨_, rfl, ?_⟩
             intro a hA
             refine seq_end ?_
             refine hK190 _ _ ?_
             refine wp_cond_false (hA.ev rfl) ?_
             refine wp_skip ?_
             refine hK44 _ _ ?_
             refine wp_region_lit ?_
             refine seq_do hA rfl rfl rfl (d_move rfl) ?_
             intro a hA
             refine seq_do (v := .int .i64 (((i + 1 : Nat) : Int))) hA rfl rfl rfl (d_bin rfl rfl (fun w => (bin_add (i64In (by omega) (by omega)) w).trans (by rw [show (((i : Nat) : Int) + 1 : Int) = ((i + 1 : Nat) : Int) from by omega]))) ?_
             intro a hA
             refine seq_do hA rfl rfl rfl (d_assign rfl) ?_
             intro a hA
             refine seq_end ?_
             refine hK39 _ _ _ (by omega) ⟨i + 1, (P * u), J180, J181, J182, J183, rfl, ⟨by omega, hs9, pwB_step hB9 (by rw [hs9]; exact (Decidable.not_not.1 (of_decide_eq_false hb191)).1) (by rw [hs9]; exact fit_zero), fit_lenR (Decidable.not_not.1 (of_decide_eq_false hb191)).1, hPu, (by rw [hPu]; exact pow_num_ne (by have h7 := of_decide_eq_true hsu; omega) _), ⟨hn186, hc187⟩, ⟨hn184, hc185⟩⟩, hA.keep _ ⟨rfl, rfl, rfl, rfl, rfl, rfl, rfl, rfl, rfl, rfl, rfl, rfl, rfl, rfl, rfl, rfl, rfl, rfl, rfl, rfl, rfl, rfl, trivial⟩, ((hS.pickR [(J180, words (P * u).num.natAbs), (J182, words (P * u).den), (p29_4, [1]), (p29_3, []), (p29_2, words (1 : Rat).den), (p29_1, words (1 : Rat).num.natAbs), (a4, words v.den), (a3, words v.num.natAbs), (a2, words u.den), (a1, words u.num.natAbs)] ⟨⟨1, rfl⟩, ⟨⟨0, rfl⟩, ⟨⟨4, rfl⟩, ⟨⟨5, rfl⟩, ⟨⟨6, rfl⟩, ⟨⟨7, rfl⟩, ⟨⟨8, rfl⟩, ⟨⟨9, rfl⟩, ⟨⟨10, rfl⟩, ⟨⟨11, rfl⟩, trivial⟩⟩⟩⟩⟩⟩⟩⟩⟩⟩).subL _ (.refl _))⟩
         refine wp_draw (S := fun w1 => St w w1 [(g4, [.bool false, .slice none 0 0, .slice none 0 0, .bool false, .slice none 0 0, .slice none 0 0]), (g2, [.bool (rb u.num), .slice a1 ((words u.num.natAbs).length) ac1, .slice a2 ((words u.den).length) ac2, .bool (rb v.num), .slice a3 ((words v.num.natAbs).length) ac3, .slice a4 ((words v.den).length) ac4])] [(po1, words P.num.natAbs), (po2, words P.den), (p29_4, [1]), (p29_3, []), (p29_2, words (1 : Rat).den), (p29_1, words (1 : Rat).num.natAbs), (a4, words v.den), (a3, words v.num.natAbs), (a2, words u.den), (a1, words u.num.natAbs)] []) (by kernel_rfl) ?_
         replace hS := hS.drew
         refine any_tk (v := .pointer (some ⟨g33, 0, none⟩)) hA 0 rfl rfl rfl rfl hP (hS.partD (.cons _ (.cons_cons _ (.cons_cons _ .slnil))) 0 rfl (.refl _)) (fun w1 hS => d_field SmG_fld_26_0 rfl rfl) ?_
         intro a hA
         refine any_tk (v := .pointer (some ⟨g33, 0, none⟩)) hA 1 rfl rfl rfl rfl hP (hS.partD (.cons _ (.cons_cons _ (.cons_cons _ .slnil))) 0 rfl (.refl _)) (fun w1 hS => d_field SmG_fld_24_0 rfl rfl) ?_
         intro a hA
         refine any_tk (v := .pointer (some ⟨g2, 0, none⟩)) hA 3 rfl rfl rfl rfl hP (hS.partD (.cons _ (.cons_cons _ (.cons_cons _ .slnil))) 0 rfl (.refl _)) (fun w1 hS => d_field SmG_fld_26_0 rfl rfl) ?_
         intro a hA
         refine any_tk (v := .pointer (some ⟨g2, 0, none⟩)) hA 4 rfl rfl rfl rfl hP (hS.partD (.cons _ (.cons_cons _ (.cons_cons _ .slnil))) 0 rfl (.refl _)) (fun w1 hS => d_field SmG_fld_24_0 rfl rfl) ?_
         intro a hA
         refine any_tk hA 5 rfl rfl rfl rfl hP (hS.partD (.cons _ (.cons_cons _ (.cons_cons _ .slnil))) 0 rfl (.refl _)) (fun w1 hS => d_load1 hS SmG_is1_4 rfl 1 rfl rfl) ?_
         intro a hA
         refine any_tk (v := .pointer (some ⟨g33, 0, none⟩)) hA 14 rfl rfl rfl rfl hP (hS.partD (.cons _ (.cons_cons _ (.cons_cons _ .slnil))) 0 rfl (.refl _)) (fun w1 hS => d_field SmG_fld_26_0 rfl rfl) ?_
         intro a hA
         refine any_tk (v := .pointer (some ⟨g33, 1, none⟩)) hA 15 rfl rfl rfl rfl hP (hS.partD (.cons _ (.cons_cons _ (.cons_cons _ .slnil))) 0 rfl (.refl _)) (fun w1 hS => d_field SmG_fld_24_1 rfl rfl) ?_
         intro a hA
         refine any_tk (v := .pointer (some ⟨g2, 0, none⟩)) hA 17 rfl rfl rfl rfl hP (hS.partD (.cons _ (.cons_cons _ (.cons_cons _ .slnil))) 0 rfl (.refl _)) (fun w1 hS => d_field SmG_fld_26_0 rfl rfl) ?_
         intro a hA
         refine any_tk (v := .pointer (some ⟨g2, 1, none⟩)) hA 18 rfl rfl rfl rfl hP (hS.partD (.cons _ (.cons_cons _ (.cons_cons _ .slnil))) 0 rfl (.refl _)) (fun w1 hS => d_field SmG_fld_24_1 rfl rfl) ?_
         intro a hA
         refine any_tk hA 19 rfl rfl rfl rfl hP (hS.partD (.cons _ (.cons_cons _ (.cons_cons _ .slnil))) 0 rfl (.refl _)) (fun w1 hS => d_load1 hS SmG_is1_22 rfl 1 rfl rfl) ?_
         intro a hA
         refine any_tk (v := .pointer (some ⟨g33, 0, none⟩)) hA 21 rfl rfl rfl rfl hP (hS.partD (.cons _ (.cons_cons _ (.cons_cons _ .slnil))) 0 rfl (.refl _)) (fun w1 hS => d_field SmG_fld_26_0 rfl rfl) ?_
         intro a hA
         refine any_tk (v := .pointer (some ⟨g33, 2, none⟩)) hA 22 rfl rfl rfl rfl hP (hS.partD (.cons _ (.cons_cons _ (.cons_cons _ .slnil))) 0 rfl (.refl _)) (fun w1 hS => d_field SmG_fld_24_2 rfl rfl) ?_
         intro a hA
         refine any_tk (v := .pointer (some ⟨g2, 0, none⟩)) hA 24 rfl rfl rfl rfl hP (hS.partD (.cons _ (.cons_cons _ (.cons_cons _ .slnil))) 0 rfl (.refl _)) (fun w1 hS => d_field SmG_fld_26_0 rfl rfl) ?_
         intro a hA
         refine any_tk (v := .pointer (some ⟨g2, 2, none⟩)) hA 25 rfl rfl rfl rfl hP (hS.partD (.cons _ (.cons_cons _ (.cons_cons _ .slnil))) 0 rfl (.refl _)) (fun w1 hS => d_field SmG_fld_24_2 rfl rfl) ?_
         intro a hA
         refine any_tk hA 26 rfl rfl rfl rfl hP (hS.partD (.cons _ (.cons_cons _ (.cons_cons _ .slnil))) 0 rfl (.refl _)) (fun w1 hS => d_load1 hS SmG_is1_22 rfl 1 rfl rfl) ?_
         intro a hA
         refine any_many (rs := [2, 16, 23]) (by kernel_rfl) (by simp) ⟨?_, ?_, ?_, trivial⟩
         · refine op_do hA 2 rfl rfl rfl rfl (d_load1 hS SmG_is1_4 rfl 0 rfl rfl) (hS.partD (.cons _ (.cons_cons _ (.cons_cons _ .slnil))) 0 rfl (.refl _)) ?_
           intro a hA
           refine any_tk (v := .bool true) hA 6 rfl rfl rfl rfl hP (hS.partD (.cons _ (.cons_cons _ (.cons_cons _ .slnil))) 0 rfl (.refl _)) (fun w1 hS => d_bin rfl rfl (fun w => ((bin_neqB Tryz.underlying4) w).trans (by rw [show (!((rb P.num) == rb u.num)) = true from (by rw [hb47, hsu]; rfl)]))) ?_
           intro a hA
           refine any_tk hA 7 rfl rfl rfl rfl hP (hS.partD (.cons _ (.cons_cons _ (.cons_cons _ .slnil))) 0 rfl (.refl _)) (fun w1 hS => d_move rfl) ?_
           intro a hA
           refine any_tk (v := .pointer (some ⟨g2, 0, none⟩)) hA 8 rfl rfl rfl rfl hP (hS.partD (.cons _ (.cons_cons _ (.cons_cons _ .slnil))) 0 rfl (.refl _)) (fun w1 hS => d_field SmG_fld_26_0 rfl rfl) ?_
           intro a hA
           refine any_tk (v := .pointer (some ⟨g2, 1, none⟩)) hA 9 rfl rfl rfl rfl hP (hS.partD (.cons _ (.cons_cons _ (.cons_cons _ .slnil))) 0 rfl (.refl _)) (fun w1 hS => d_field SmG_fld_24_1 rfl rfl) ?_
           intro a hA
           refine any_tk hA 10 rfl rfl rfl rfl hP (hS.partD (.cons _ (.cons_cons _ (.cons_cons _ .slnil))) 0 rfl (.refl _)) (fun w1 hS => d_load1 hS SmG_is1_22 rfl 1 rfl rfl) ?_
           intro a hA
           refine any_tk (v := .int .i64 ((((words u.num.natAbs).length : Nat) : Int))) hA 11 rfl rfl rfl rfl hP (hS.partD (.cons _ (.cons_cons _ (.cons_cons _ .slnil))) 0 rfl (.refl _)) (fun w1 hS => d_len Tryz.underlying22 rfl) ?_
           intro a hA
           refine any_tk (v := .bool true) hA 12 rfl rfl rfl rfl hP (hS.partD (.cons _ (.cons_cons _ (.cons_cons _ .slnil))) 0 rfl (.refl _)) (fun w1 hS => d_bin rfl rfl (fun w => (bin_gtr w).trans (by rw [show (decide (0 < (((words u.num.natAbs).length : Nat) : Int))) = true from (decide_eq_true (by omega))]))) ?_
           intro a hA
           refine any_tk (v := .bool ((rb (P * u).num))) hA 13 rfl rfl rfl rfl hP (hS.partD (.cons _ (.cons_cons _ (.cons_cons _ .slnil))) 0 rfl (.refl _)) (fun w1 hS => d_pick rfl rfl rfl (by rw [hsg9, hb47]; rfl)) ?_
           intro a hA
           refine any_many (rs := [16, 23]) (by kernel_rfl) (by simp) ⟨?_, ?_, trivial⟩
           · refine op_do hA 16 rfl rfl rfl rfl (d_load1 hS SmG_is1_22 rfl 0 rfl rfl) (hS.partD (.cons _ (.cons_cons _ (.cons_cons _ .slnil))) 0 rfl (.refl _)) ?_
             intro a hA
             refine any_many (rs := [20, 23]) (by kernel_rfl) (by simp) ⟨?_, ?_, trivial⟩
             · refine op_call hA 20 rfl rfl rfl rfl (enters_func  rfl rfl (fun w => by kernel_rfl)) (rtimes_as hn9 _ _ (hS.rd 0 rfl) (hS.rd 9 rfl) (by omega) (by omega)) ?_
               rintro _ w202 ⟨ro198, rc199, rfl, ho200, hb201⟩
               replace hS := hS.call hb201
               replace hS := hS.addR ho200.rd
               refine ⟨_, rfl, (hS.partD (.cons _ (.cons_cons _ (.cons_cons _ .slnil))) 1 rfl (.refl _)), ?_⟩
               intro a hA
               refine any_one (by kernel_rfl) (op_do hA 23 rfl rfl rfl rfl (d_load1 hS SmG_is1_22 rfl 0 rfl rfl) (hS.partD (.cons _ (.cons_cons _ (.cons_cons _ .slnil))) 1 rfl (.refl _)) ?_)
               intro a hA
               refine any_one (by kernel_rfl) (op_call hA 27 rfl rfl rfl rfl (enters_func  rfl rfl (fun w => by kernel_rfl)) (rtimes_as hd9 _ _ (hS.rd 2 rfl) (hS.rd 9 rfl) (by omega) (by omega)) ?_)
               rintro _ w207 ⟨ro203, rc204, rfl, ho205, hb206⟩
               replace hS := hS.call hb206
               replace hS := hS.addR ho205.rd
               refine ⟨_, rfl, (hS.partD (.cons _ (.cons_cons _ (.cons_cons _ .slnil))) 2 rfl (.refl _)), ?_⟩
               intro a hA
               refine any_tk (v := .agg #[.bool ((rb (P * u).num)), .slice ro198 ((words (P * u).num.natAbs).length) rc199, .slice ro203 ((words (P * u).den).length) rc204]) hA 28 rfl rfl rfl rfl hP (hS.partD (.cons _ (.cons_cons _ (.cons_cons _ .slnil))) 2 rfl (.refl _)) (fun w1 hS => d_build rfl (fun w => by kernel_rfl)) ?_
               intro a hA
               refine any_tk (v := .pointer (some ⟨g33, 0, none⟩)) hA 29 rfl rfl rfl rfl hP (hS.partD (.cons _ (.cons_cons _ (.cons_cons _ .slnil))) 2 rfl (.refl _)) (fun w1 hS => d_field SmG_fld_26_0 rfl rfl) ?_
               intro a hA
               refine any_one (by kernel_rfl) (op_store (us := [.bool ((rb (P * u).num)), .slice ro198 ((words (P * u).num.natAbs).length) rc199, .slice ro203 ((words (P * u).den).length) rc204, .bool false, .slice p29_3 0 p29_c3, .slice p29_4 1 p29_c4]) hA hS 30 rfl rfl rfl (sets_store rfl rfl rfl (by kernel_rfl) hS 0 rfl rfl rfl) 0 rfl rfl rfl rfl ?_)
               intro w208 hS
               refine ⟨(hS.partD (.cons _ (.cons_cons _ (.cons_cons _ .slnil))) 2 rfl (.refl _)), ?_⟩
               refine any_end (by kernel_rfl) ?_
               refine hJ188 _ _ ⟨ro198, rc199, ro203, rc204, hA.keep _ ⟨rfl, rfl, rfl, rfl, rfl, rfl, rfl, rfl, rfl, rfl, rfl, rfl, rfl, rfl, rfl, rfl, rfl, rfl, rfl, rfl, rfl, rfl, rfl, rfl, rfl, rfl, rfl, trivial⟩, (St.pickRL hS ⟨⟨0, rfl⟩, ⟨⟨1, rfl⟩, ⟨⟨2, rfl⟩, ⟨⟨3, rfl⟩, ⟨⟨4, rfl⟩, ⟨⟨5, rfl⟩, ⟨⟨6, rfl⟩, ⟨⟨7, rfl⟩, ⟨⟨8, rfl⟩, ⟨⟨9, rfl⟩, ⟨⟨10, rfl⟩, ⟨⟨11, rfl⟩, trivial⟩⟩⟩⟩⟩⟩⟩⟩⟩⟩⟩⟩ [0, 1, 2] rfl (by decide)), ho205.nocap, ho205.caps, ho200.nocap, ho200.caps⟩
             · refine op_do hA 23 rfl rfl rfl rfl (d_load1 hS SmG_is1_22 rfl 0 rfl rfl) (hS.partD (.cons _ (.cons_cons _ (.cons_cons _ .slnil))) 0 rfl (.refl _)) ?_
               intro a hA
               refine any_one (by kernel_rfl) (op_call hA 20 rfl rfl rfl rfl (enters_func  rfl rfl (fun w => by kernel_rfl)) (rtimes_as hn9 _ _ (hS.rd 0 rfl) (hS.rd 9 rfl) (by omega) (by omega)) ?_)
               rintro _ w213 ⟨ro209, rc210, rfl, ho211, hb212⟩
               replace hS := hS.call hb212
               replace hS := hS.addR ho211.rd
               refine ⟨_, rfl, (hS.partD (.cons _ (.cons_cons _ (.cons_cons _ .slnil))) 1 rfl (.refl _)), ?_⟩
               intro a hA
               refine any_one (by kernel_rfl) (op_call hA 27 rfl rfl rfl rfl (enters_func  rfl rfl (fun w => by kernel_rfl)) (rtimes_as hd9 _ _ (hS.rd 2 rfl) (hS.rd 9 rfl) (by omega) (by omega)) ?_)
               rintro _ w218 ⟨ro214, rc215, rfl, ho216, hb217⟩
               replace hS := hS.call hb217
               replace hS := hS.addR ho216.rd
               refine ⟨_, rfl, (hS.partD (.cons _ (.cons_cons _ (.cons_cons _ .slnil))) 2 rfl (.refl _)), ?_⟩
               intro a hA
               refine any_tk (v := .agg #[.bool ((rb (P * u).num)), .slice ro209 ((words (P * u).num.natAbs).length) rc210, .slice ro214 ((words (P * u).den).length) rc215]) hA 28 rfl rfl rfl rfl hP (hS.partD (.cons _ (.cons_cons _ (.cons_cons _ .slnil))) 2 rfl (.refl _)) (fun w1 hS => d_build rfl (fun w => by kernel_rfl)) ?_
               intro a hA
               refine any_tk (v := .pointer (some ⟨g33, 0, none⟩)) hA 29 rfl rfl rfl rfl hP (hS.partD (.cons _ (.cons_cons _ (.cons_cons _ .slnil))) 2 rfl (.refl _)) (fun w1 hS => d_field SmG_fld_26_0 rfl rfl) ?_
               intro a hA
               refine any_one (by kernel_rfl) (op_store (us := [.bool ((rb (P * u).num)), .slice ro209 ((words (P * u).num.natAbs).length) rc210, .slice ro214 ((words (P * u).den).length) rc215, .bool false, .slice p29_3 0 p29_c3, .slice p29_4 1 p29_c4]) hA hS 30 rfl rfl rfl (sets_store rfl rfl rfl (by kernel_rfl) hS 0 rfl rfl rfl) 0 rfl rfl rfl rfl ?_)
               intro w219 hS
               refine ⟨(hS.partD (.cons _ (.cons_cons _ (.cons_cons _ .slnil))) 2 rfl (.refl _)), ?_⟩
               refine any_end (by kernel_rfl) ?_
               refine hJ188 _ _ ⟨ro209, rc210, ro214, rc215, hA.keep _ ⟨rfl, rfl, rfl, rfl, rfl, rfl, rfl, rfl, rfl, rfl, rfl, rfl, rfl, rfl, rfl, rfl, rfl, rfl, rfl, rfl, rfl, rfl, rfl, rfl, rfl, rfl, rfl, trivial⟩, (St.pickRL hS ⟨⟨0, rfl⟩, ⟨⟨1, rfl⟩, ⟨⟨2, rfl⟩, ⟨⟨3, rfl⟩, ⟨⟨4, rfl⟩, ⟨⟨5, rfl⟩, ⟨⟨6, rfl⟩, ⟨⟨7, rfl⟩, ⟨⟨8, rfl⟩, ⟨⟨9, rfl⟩, ⟨⟨10, rfl⟩, ⟨⟨11, rfl⟩, trivial⟩⟩⟩⟩⟩⟩⟩⟩⟩⟩⟩⟩ [0, 1, 2] rfl (by decide)), ho216.nocap, ho216.caps, ho211.nocap, ho211.caps⟩
           · refine op_do hA 23 rfl rfl rfl rfl (d_load1 hS SmG_is1_22 rfl 0 rfl rfl) (hS.partD (.cons _ (.cons_cons _ (.cons_cons _ .slnil))) 0 rfl (.refl _)) ?_
             intro a hA
             refine any_one (by kernel_rfl) (op_do hA 16 rfl rfl rfl rfl (d_load1 hS SmG_is1_22 rfl 0 rfl rfl) (hS.partD (.cons _ (.cons_cons _ (.cons_cons _ .slnil))) 0 rfl (.refl _)) ?_)
             intro a hA
             refine any_one (by kernel_rfl) (op_call hA 20 rfl rfl rfl rfl (enters_func  rfl rfl (fun w => by kernel_rfl)) (rtimes_as hn9 _ _ (hS.rd 0 rfl) (hS.rd 9 rfl) (by omega) (by omega)) ?_)
             rintro _ w224 ⟨ro220, rc221, rfl, ho222, hb223⟩
             replace hS := hS.call hb223
             replace hS := hS.addR ho222.rd
             refine ⟨_, rfl, (hS.partD (.cons _ (.cons_cons _ (.cons_cons _ .slnil))) 1 rfl (.refl _)), ?_⟩
             intro a hA
             refine any_one (by kernel_rfl) (op_call hA 27 rfl rfl rfl rfl (enters_func  rfl rfl (fun w => by kernel_rfl)) (rtimes_as hd9 _ _ (hS.rd 2 rfl) (hS.rd 9 rfl) (by omega) (by omega)) ?_)
             rintro _ w229 ⟨ro225, rc226, rfl, ho227, hb228⟩
             replace hS := hS.call hb228
             replace hS := hS.addR ho227.rd
             refine ⟨_, rfl, (hS.partD (.cons _ (.cons_cons _ (.cons_cons _ .slnil))) 2 rfl (.refl _)), ?_⟩
             intro a hA
             refine any_tk (v := .agg #[.bool ((rb (P * u).num)), .slice ro220 ((words (P * u).num.natAbs).length) rc221, .slice ro225 ((words (P * u).den).length) rc226]) hA 28 rfl rfl rfl rfl hP (hS.partD (.cons _ (.cons_cons _ (.cons_cons _ .slnil))) 2 rfl (.refl _)) (fun w1 hS => d_build rfl (fun w => by kernel_rfl)) ?_
             intro a hA
             refine any_tk (v := .pointer (some ⟨g33, 0, none⟩)) hA 29 rfl rfl rfl rfl hP (hS.partD (.cons _ (.cons_cons _ (.cons_cons _ .slnil))) 2 rfl (.refl _)) (fun w1 hS => d_field SmG_fld_26_0 rfl rfl) ?_
             intro a hA
             refine any_one (by kernel_rfl) (op_store (us := [.bool ((rb (P * u).num)), .slice ro220 ((words (P * u).num.natAbs).length) rc221, .slice ro225 ((words (P * u).den).length) rc226, .bool false, .slice p29_3 0 p29_c3, .slice p29_4 1 p29_c4]) hA hS 30 rfl rfl rfl (sets_store rfl rfl rfl (by kernel_rfl) hS 0 rfl rfl rfl) 0 rfl rfl rfl rfl ?_)
             intro w230 hS
             refine ⟨(hS.partD (.cons _ (.cons_cons _ (.cons_cons _ .slnil))) 2 rfl (.refl _)), ?_⟩
             refine any_end (by kernel_rfl) ?_
             refine hJ188 _ _ ⟨ro220, rc221, ro225, rc226, hA.keep _ ⟨rfl, rfl, rfl, rfl, rfl, rfl, rfl, rfl, rfl, rfl, rfl, rfl, rfl, rfl, rfl, rfl, rfl, rfl, rfl, rfl, rfl, rfl, rfl, rfl, rfl, rfl, rfl, trivial⟩, (St.pickRL hS ⟨⟨0, rfl⟩, ⟨⟨1, rfl⟩, ⟨⟨2, rfl⟩, ⟨⟨3, rfl⟩, ⟨⟨4, rfl⟩, ⟨⟨5, rfl⟩, ⟨⟨6, rfl⟩, ⟨⟨7, rfl⟩, ⟨⟨8, rfl⟩, ⟨⟨9, rfl⟩, ⟨⟨10, rfl⟩, ⟨⟨11, rfl⟩, trivial⟩⟩⟩⟩⟩⟩⟩⟩⟩⟩⟩⟩ [0, 1, 2] rfl (by decide)), ho227.nocap, ho227.caps, ho222.nocap, ho222.caps⟩
         · refine op_do hA 16 rfl rfl rfl rfl (d_load1 hS SmG_is1_22 rfl 0 rfl rfl) (hS.partD (.cons _ (.cons_cons _ (.cons_cons _ .slnil))) 0 rfl (.refl _)) ?_
           intro a hA
           refine any_many (rs := [2, 23]) (by kernel_rfl) (by simp) ⟨?_, ?_, trivial⟩
           · refine op_do hA 2 rfl rfl rfl rfl (d_load1 hS SmG_is1_4 rfl 0 rfl rfl) (hS.partD (.cons _ (.cons_cons _ (.cons_cons _ .slnil))) 0 rfl (.refl _)) ?_
             intro a hA
             refine any_tk (v := .bool true) hA 6 rfl rfl rfl rfl hP (hS.partD (.cons _ (.cons_cons _ (.cons_cons _ .slnil))) 0 rfl (.refl _)) (fun w1 hS => d_bin rfl rfl (fun w => ((bin_neqB Tryz.underlying4) w).trans (by rw [show (!((rb P.num) == rb u.num)) = true from (by rw [hb47, hsu]; rfl)]))) ?_
             intro a hA
             refine any_tk hA 7 rfl rfl rfl rfl hP (hS.partD (.cons _ (.cons_cons _ (.cons_cons _ .slnil))) 0 rfl (.refl _)) (fun w1 hS => d_move rfl) ?_
             intro a hA
             refine any_tk (v := .pointer (some ⟨g2, 0, none⟩)) hA 8 rfl rfl rfl rfl hP (hS.partD (.cons _ (.cons_cons _ (.cons_cons _ .slnil))) 0 rfl (.refl _)) (fun w1 hS => d_field SmG_fld_26_0 rfl rfl) ?_
             intro a hA
             refine any_tk (v := .pointer (some ⟨g2, 1, none⟩)) hA 9 rfl rfl rfl rfl hP (hS.partD (.cons _ (.cons_cons _ (.cons_cons _ .slnil))) 0 rfl (.refl _)) (fun w1 hS => d_field SmG_fld_24_1 rfl rfl) ?_
             intro a hA
             refine any_tk hA 10 rfl rfl rfl rfl hP (hS.partD (.cons _ (.cons_cons _ (.cons_cons _ .slnil))) 0 rfl (.refl _)) (fun w1 hS => d_load1 hS SmG_is1_22 rfl 1 rfl rfl) ?_
             intro a hA
             refine any_tk (v := .int .i64 ((((words u.num.natAbs).length : Nat) : Int))) hA 11 rfl rfl rfl rfl hP (hS.partD (.cons _ (.cons_cons _ (.cons_cons _ .slnil))) 0 rfl (.refl _)) (fun w1 hS => d_len Tryz.underlying22 rfl) ?_
             intro a hA
             refine any_tk (v := .bool true) hA 12 rfl rfl rfl rfl hP (hS.partD (.cons _ (.cons_cons _ (.cons_cons _ .slnil))) 0 rfl (.refl _)) (fun w1 hS => d_bin rfl rfl (fun w => (bin_gtr w).trans (by rw [show (decide (0 < (((words u.num.natAbs).length : Nat) : Int))) = true from (decide_eq_true (by omega))]))) ?_
             intro a hA
             refine any_tk (v := .bool ((rb (P * u).num))) hA 13 rfl rfl rfl rfl hP (hS.partD (.cons _ (.cons_cons _ (.cons_cons _ .slnil))) 0 rfl (.refl _)) (fun w1 hS => d_pick rfl rfl rfl (by rw [hsg9, hb47]; rfl)) ?_
             intro a hA
             refine any_many (rs := [20, 23]) (by kernel_rfl) (by simp) ⟨?_, ?_, trivial⟩
             · refine op_call hA 20 rfl rfl rfl rfl (enters_func  rfl rfl (fun w => by kernel_rfl)) (rtimes_as hn9 _ _ (hS.rd 0 rfl) (hS.rd 9 rfl) (by omega) (by omega)) ?_
               rintro _ w235 ⟨ro231, rc232, rfl, ho233, hb234⟩
               replace hS := hS.call hb234
               replace hS := hS.addR ho233.rd
               refine ⟨_, rfl, (hS.partD (.cons _ (.cons_cons _ (.cons_cons _ .slnil))) 1 rfl (.refl _)), ?_⟩
               intro a hA
               refine any_one (by kernel_rfl) (op_do hA 23 rfl rfl rfl rfl (d_load1 hS SmG_is1_22 rfl 0 rfl rfl) (hS.partD (.cons _ (.cons_cons _ (.cons_cons _ .slnil))) 1 rfl (.refl _)) ?_)
               intro a hA
               refine any_one (by kernel_rfl) (op_call hA 27 rfl rfl rfl rfl (enters_func  rfl rfl (fun w => by kernel_rfl)) (rtimes_as hd9 _ _ (hS.rd 2 rfl) (hS.rd 9 rfl) (by omega) (by omega)) ?_)
               rintro _ w240 ⟨ro236, rc237, rfl, ho238, hb239⟩
               replace hS := hS.call hb239
               replace hS := hS.addR ho238.rd
               refine ⟨_, rfl, (hS.partD (.cons _ (.cons_cons _ (.cons_cons _ .slnil))) 2 rfl (.refl _)), ?_⟩
               intro a hA
               refine any_tk (v := .agg #[.bool ((rb (P * u).num)), .slice ro231 ((words (P * u).num.natAbs).length) rc232, .slice ro236 ((words (P * u).den).length) rc237]) hA 28 rfl rfl rfl rfl hP (hS.partD (.cons _ (.cons_cons _ (.cons_cons _ .slnil))) 2 rfl (.refl _)) (fun w1 hS => d_build rfl (fun w => by kernel_rfl)) ?_
               intro a hA
               refine any_tk (v := .pointer (some ⟨g33, 0, none⟩)) hA 29 rfl rfl rfl rfl hP (hS.partD (.cons _ (.cons_cons _ (.cons_cons _ .slnil))) 2 rfl (.refl _)) (fun w1 hS => d_field SmG_fld_26_0 rfl rfl) ?_
               intro a hA
               refine any_one (by kernel_rfl) (op_store (us := [.bool ((rb (P * u).num)), .slice ro231 ((words (P * u).num.natAbs).length) rc232, .slice ro236 ((words (P * u).den).length) rc237, .bool false, .slice p29_3 0 p29_c3, .slice p29_4 1 p29_c4]) hA hS 30 rfl rfl rfl (sets_store rfl rfl rfl (by kernel_rfl) hS 0 rfl rfl rfl) 0 rfl rfl rfl rfl ?_)
               intro w241 hS
               refine ⟨(hS.partD (.cons _ (.cons_cons _ (.cons_cons _ .slnil))) 2 rfl (.refl _)), ?_⟩
               refine any_end (by kernel_rfl) ?_
               refine hJ188 _ _ ⟨ro231, rc232, ro236, rc237, hA.keep _ ⟨rfl, rfl, rfl, rfl, rfl, rfl, rfl, rfl, rfl, rfl, rfl, rfl, rfl, rfl, rfl, rfl, rfl, rfl, rfl, rfl, rfl, rfl, rfl, rfl, rfl, rfl, rfl, trivial⟩, (St.pickRL hS ⟨⟨0, rfl⟩, ⟨⟨1, rfl⟩, ⟨⟨2, rfl⟩, ⟨⟨3, rfl⟩, ⟨⟨4, rfl⟩, ⟨⟨5, rfl⟩, ⟨⟨6, rfl⟩, ⟨⟨7, rfl⟩, ⟨⟨8, rfl⟩, ⟨⟨9, rfl⟩, ⟨⟨10, rfl⟩, ⟨⟨11, rfl⟩, trivial⟩⟩⟩⟩⟩⟩⟩⟩⟩⟩⟩⟩ [0, 1, 2] rfl (by decide)), ho238.nocap, ho238.caps, ho233.nocap, ho233.caps⟩
             · refine op_do hA 23 rfl rfl rfl rfl (d_load1 hS SmG_is1_22 rfl 0 rfl rfl) (hS.partD (.cons _ (.cons_cons _ (.cons_cons _ .slnil))) 0 rfl (.refl _)) ?_
               intro a hA
               refine any_one (by kernel_rfl) (op_call hA 20 rfl rfl rfl rfl (enters_func  rfl rfl (fun w => by kernel_rfl)) (rtimes_as hn9 _ _ (hS.rd 0 rfl) (hS.rd 9 rfl) (by omega) (by omega)) ?_)
               rintro _ w246 ⟨ro242, rc243, rfl, ho244, hb245⟩
               replace hS := hS.call hb245
               replace hS := hS.addR ho244.rd
               refine ⟨_, rfl, (hS.partD (.cons _ (.cons_cons _ (.cons_cons _ .slnil))) 1 rfl (.refl _)), ?_⟩
               intro a hA
               refine any_one (by kernel_rfl) (op_call hA 27 rfl rfl rfl rfl (enters_func  rfl rfl (fun w => by kernel_rfl)) (rtimes_as hd9 _ _ (hS.rd 2 rfl) (hS.rd 9 rfl) (by omega) (by omega)) ?_)
               rintro _ w251 ⟨ro247, rc248, rfl, ho249, hb250⟩
               replace hS := hS.call hb250
               replace hS := hS.addR ho249.rd
               refine ⟨_, rfl, (hS.partD (.cons _ (.cons_cons _ (.cons_cons _ .slnil))) 2 rfl (.refl _)), ?_⟩
               intro a hA
               refine any_tk (v := .agg #[.bool ((rb (P * u).num)), .slice ro242 ((words (P * u).num.natAbs).length) rc243, .slice ro247 ((words (P * u).den).length) rc248]) hA 28 rfl rfl rfl rfl hP (hS.partD (.cons _ (.cons_cons _ (.cons_cons _ .slnil))) 2 rfl (.refl _)) (fun w1 hS => d_build rfl (fun w => by kernel_rfl)) ?_
               intro a hA
               refine any_tk (v := .pointer (some ⟨g33, 0, none⟩)) hA 29 rfl rfl rfl rfl hP (hS.partD (.cons _ (.cons_cons _ (.cons_cons _ .slnil))) 2 rfl (.refl _)) (fun w1 hS => d_field SmG_fld_26_0 rfl rfl) ?_
               intro a hA
               refine any_one (by kernel_rfl) (op_store (us := [.bool ((rb (P * u).num)), .slice ro242 ((words (P * u).num.natAbs).length) rc243, .slice ro247 ((words (P * u).den).length) rc248, .bool false, .slice p29_3 0 p29_c3, .slice p29_4 1 p29_c4]) hA hS 30 rfl rfl rfl (sets_store rfl rfl rfl (by kernel_rfl) hS 0 rfl rfl rfl) 0 rfl rfl rfl rfl ?_)
               intro w252 hS
               refine ⟨(hS.partD (.cons _ (.cons_cons _ (.cons_cons _ .slnil))) 2 rfl (.refl _)), ?_⟩
               refine any_end (by kernel_rfl) ?_
               refine hJ188 _ _ ⟨ro242, rc243, ro247, rc248, hA.keep _ ⟨rfl, rfl, rfl, rfl, rfl, rfl, rfl, rfl, rfl, rfl, rfl, rfl, rfl, rfl, rfl, rfl, rfl, rfl, rfl, rfl, rfl, rfl, rfl, rfl, rfl, rfl, rfl, trivial⟩, (St.pickRL hS ⟨⟨0, rfl⟩, ⟨⟨1, rfl⟩, ⟨⟨2, rfl⟩, ⟨⟨3, rfl⟩, ⟨⟨4, rfl⟩, ⟨⟨5, rfl⟩, ⟨⟨6, rfl⟩, ⟨⟨7, rfl⟩, ⟨⟨8, rfl⟩, ⟨⟨9, rfl⟩, ⟨⟨10, rfl⟩, ⟨⟨11, rfl⟩, trivial⟩⟩⟩⟩⟩⟩⟩⟩⟩⟩⟩⟩ [0, 1, 2] rfl (by decide)), ho249.nocap, ho249.caps, ho244.nocap, ho244.caps⟩
           · refine op_do hA 23 rfl rfl rfl rfl (d_load1 hS SmG_is1_22 rfl 0 rfl rfl) (hS.partD (.cons _ (.cons_cons _ (.cons_cons _ .slnil))) 0 rfl (.refl _)) ?_
             intro a hA
             refine any_one (by kernel_rfl) (op_do hA 2 rfl rfl rfl rfl (d_load1 hS SmG_is1_4 rfl 0 rfl rfl) (hS.partD (.cons _ (.cons_cons _ (.cons_cons _ .slnil))) 0 rfl (.refl _)) ?_)
             intro a hA
             refine any_tk (v := .bool true) hA 6 rfl rfl rfl rfl hP (hS.partD (.cons _ (.cons_cons _ (.cons_cons _ .slnil))) 0 rfl (.refl _)) (fun w1 hS => d_bin rfl rfl (fun w => ((bin_neqB Tryz.underlying4) w).trans (by rw [show (!((rb P.num) == rb u.num)) = true from (by rw [hb47, hsu]; rfl)]))) ?_
             intro a hA
             refine any_tk hA 7 rfl rfl rfl rfl hP (hS.partD (.cons _ (.cons_cons _ (.cons_cons _ .slnil))) 0 rfl (.refl _)) (fun w1 hS => d_move rfl) ?_
             intro a hA
             refine any_tk (v := .pointer (some ⟨g2, 0, none⟩)) hA 8 rfl rfl rfl rfl hP (hS.partD (.cons _ (.cons_cons _ (.cons_cons _ .slnil))) 0 rfl (.refl _)) (fun w1 hS => d_field SmG_fld_26_0 rfl rfl) ?_
             intro a hA
             refine any_tk (v := .pointer (some ⟨g2, 1, none⟩)) hA 9 rfl rfl rfl rfl hP (hS.partD (.cons _ (.cons_cons _ (.cons_cons _ .slnil))) 0 rfl (.refl _)) (fun w1 hS => d_field SmG_fld_24_1 rfl rfl) ?_
             intro a hA
             refine any_tk hA 10 rfl rfl rfl rfl hP (hS.partD (.cons _ (.cons_cons _ (.cons_cons _ .slnil))) 0 rfl (.refl _)) (fun w1 hS => d_load1 hS SmG_is1_22 rfl 1 rfl rfl) ?_
             intro a hA
             refine any_tk (v := .int .i64 ((((words u.num.natAbs).length : Nat) : Int))) hA 11 rfl rfl rfl rfl hP (hS.partD (.cons _ (.cons_cons _ (.cons_cons _ .slnil))) 0 rfl (.refl _)) (fun w1 hS => d_len Tryz.underlying22 rfl) ?_
             intro a hA
             refine any_tk (v := .bool true) hA 12 rfl rfl rfl rfl hP (hS.partD (.cons _ (.cons_cons _ (.cons_cons _ .slnil))) 0 rfl (.refl _)) (fun w1 hS => d_bin rfl rfl (fun w => (bin_gtr w).trans (by rw [show (decide (0 < (((words u.num.natAbs).length : Nat) : Int))) = true from (decide_eq_true (by omega))]))) ?_
             intro a hA
             refine any_tk (v := .bool ((rb (P * u).num))) hA 13 rfl rfl rfl rfl hP (hS.partD (.cons _ (.cons_cons _ (.cons_cons _ .slnil))) 0 rfl (.refl _)) (fun w1 hS => d_pick rfl rfl rfl (by rw [hsg9, hb47]; rfl)) ?_
             intro a hA
             refine any_one (by kernel_rfl) (op_call hA 20 rfl rfl rfl rfl (enters_func  rfl rfl (fun w => by kernel_rfl)) (rtimes_as hn9 _ _ (hS.rd 0 rfl) (hS.rd 9 rfl) (by omega) (by omega)) ?_)
             rintro _ w257 ⟨ro253, rc254, rfl, ho255, hb256⟩
             replace hS := hS.call hb256
             replace hS := hS.addR ho255.rd
             refine ⟨_, rfl, (hS.partD (.cons _ (.cons_cons _ (.cons_cons _ .slnil))) 1 rfl (.refl _)), ?_⟩
             intro a hA
             refine any_one (by kernel_rfl) (op_call hA 27 rfl rfl rfl rfl (enters_func  rfl rfl (fun w => by kernel_rfl)) (rtimes_as hd9 _ _ (hS.rd 2 rfl) (hS.rd 9 rfl) (by omega) (by omega)) ?_)
             rintro _ w262 ⟨ro258, rc259, rfl, ho260, hb261⟩
             replace hS := hS.call hb261
             replace hS := hS.addR ho260.rd
             refine ⟨_, rfl, (hS.partD (.cons _ (.cons_cons _ (.cons_cons _ .slnil))) 2 rfl (.refl _)), ?_⟩
             intro a hA
             refine any_tk (v := .agg #[.bool ((rb (P * u).num)), .slice ro253 ((words (P * u).num.natAbs).length) rc254, .slice ro258 ((words (P * u).den).length) rc259]) hA 28 rfl rfl rfl rfl hP (hS.partD (.cons _ (.cons_cons _ (.cons_cons _ .slnil))) 2 rfl (.refl _)) (fun w1 hS => d_build rfl (fun w => by kernel_rfl)) ?_
             intro a hA
             refine any_tk (v := .pointer (some ⟨g33, 0, none⟩)) hA 29 rfl rfl rfl rfl hP (hS.partD (.cons _ (.cons_cons _ (.cons_cons _ .slnil))) 2 rfl (.refl _)) (fun w1 hS => d_field SmG_fld_26_0 rfl rfl) ?_
             intro a hA
             refine any_one (by kernel_rfl) (op_store (us := [.bool ((rb (P * u).num)), .slice ro253 ((words (P * u).num.natAbs).length) rc254, .slice ro258 ((words (P * u).den).length) rc259, .bool false, .slice p29_3 0 p29_c3, .slice p29_4 1 p29_c4]) hA hS 30 rfl rfl rfl (sets_store rfl rfl rfl (by kernel_rfl) hS 0 rfl rfl rfl) 0 rfl rfl rfl rfl ?_)
             intro w263 hS
             refine ⟨(hS.partD (.cons _ (.cons_cons _ (.cons_cons _ .slnil))) 2 rfl (.refl _)), ?_⟩
             refine any_end (by kernel_rfl) ?_
             refine hJ188 _ _ ⟨ro253, rc254, ro258, rc259, hA.keep _ ⟨rfl, rfl, rfl, rfl, rfl, rfl, rfl, rfl, rfl, rfl, rfl, rfl, rfl, rfl, rfl, rfl, rfl, rfl, rfl, rfl, rfl, rfl, rfl, rfl, rfl, rfl, rfl, trivial⟩, (St.pickRL hS ⟨⟨0, rfl⟩, ⟨⟨1, rfl⟩, ⟨⟨2, rfl⟩, ⟨⟨3, rfl⟩, ⟨⟨4, rfl⟩, ⟨⟨5, rfl⟩, ⟨⟨6, rfl⟩, ⟨⟨7, rfl⟩, ⟨⟨8, rfl⟩, ⟨⟨9, rfl⟩, ⟨⟨10, rfl⟩, ⟨⟨11, rfl⟩, trivial⟩⟩⟩⟩⟩⟩⟩⟩⟩⟩⟩⟩ [0, 1, 2] rfl (by decide)), ho260.nocap, ho260.caps, ho255.nocap, ho255.caps⟩
         · refine op_do hA 23 rfl rfl rfl rfl (d_load1 hS SmG_is1_22 rfl 0 rfl rfl) (hS.partD (.cons _ (.cons_cons _ (.cons_cons _ .slnil))) 0 rfl (.refl _)) ?_
           intro a hA
           refine any_many (rs := [2, 16]) (by kernel_rfl) (by simp) ⟨?_, ?_, trivial⟩
           · refine op_do hA 2 rfl rfl rfl rfl (d_load1 hS SmG_is1_4 rfl 0 rfl rfl) (hS.partD (.cons _ (.cons_cons _ (.cons_cons _ .slnil))) 0 rfl (.refl _)) ?_
             intro a hA
             refine any_tk (v := .bool true) hA 6 rfl rfl rfl rfl hP (hS.partD (.cons _ (.cons_cons _ (.cons_cons _ .slnil))) 0 rfl (.refl _)) (fun w1 hS => d_bin rfl rfl (fun w => ((bin_neqB Tryz.underlying4) w).trans (by rw [show (!((rb P.num) == rb u.num)) = true from (by rw [hb47, hsu]; rfl)]))) ?_
             intro a hA
             refine any_tk hA 7 rfl rfl rfl rfl hP (hS.partD (.cons _ (.cons_cons _ (.cons_cons _ .slnil))) 0 rfl (.refl _)) (fun w1 hS => d_move rfl) ?_
             intro a hA
             refine any_tk (v := .pointer (some ⟨g2, 0, none⟩)) hA 8 rfl rfl rfl rfl hP (hS.partD (.cons _ (.cons_cons _ (.cons_cons _ .slnil))) 0 rfl (.refl _)) (fun w1 hS => d_field SmG_fld_26_0 rfl rfl) ?_
             intro a hA
             refine any_tk (v := .pointer (some ⟨g2, 1, none⟩)) hA 9 rfl rfl rfl rfl hP (hS.partD (.cons _ (.cons_cons _ (.cons_cons _ .slnil))) 0 rfl (.refl _)) (fun w1 hS => d_field SmG_fld_24_1 rfl rfl) ?_
             intro a hA
             refine any_tk hA 10 rfl rfl rfl rfl hP (hS.partD (.cons _ (.cons_cons _ (.cons_cons _ .slnil))) 0 rfl (.refl _)) (fun w1 hS => d_load1 hS SmG_is1_22 rfl 1 rfl rfl) ?_
             intro a hA
             refine any_tk (v := .int .i64 ((((words u.num.natAbs).length : Nat) : Int))) hA 11 rfl rfl rfl rfl hP (hS.partD (.cons _ (.cons_cons _ (.cons_cons _ .slnil))) 0 rfl (.refl _)) (fun w1 hS => d_len Tryz.underlying22 rfl) ?_
             intro a hA
             refine any_tk (v := .bool true) hA 12 rfl rfl rfl rfl hP (hS.partD (.cons _ (.cons_cons _ (.cons_cons _ .slnil))) 0 rfl (.refl _)) (fun w1 hS => d_bin rfl rfl (fun w => (bin_gtr w).trans (by rw [show (decide (0 < (((words u.num.natAbs).length : Nat) : Int))) = true from (decide_eq_true (by omega))]))) ?_
             intro a hA
             refine any_tk (v := .bool ((rb (P * u).num))) hA 13 rfl rfl rfl rfl hP (hS.partD (.cons _ (.cons_cons _ (.cons_cons _ .slnil))) 0 rfl (.refl _)) (fun w1 hS => d_pick rfl rfl rfl (by rw [hsg9, hb47]; rfl)) ?_
             intro a hA
             refine any_one (by kernel_rfl) (op_do hA 16 rfl rfl rfl rfl (d_load1 hS SmG_is1_22 rfl 0 rfl rfl) (hS.partD (.cons _ (.cons_cons _ (.cons_cons _ .slnil))) 0 rfl (.refl _)) ?_)
             intro a hA
             refine any_one (by kernel_rfl) (op_call hA 20 rfl rfl rfl rfl (enters_func  rfl rfl (fun w => by kernel_rfl)) (rtimes_as hn9 _ _ (hS.rd 0 rfl) (hS.rd 9 rfl) (by omega) (by omega)) ?_)
             rintro _ w268 ⟨ro264, rc265, rfl, ho266, hb267⟩
             replace hS := hS.call hb267
             replace hS := hS.addR ho266.rd
             refine ⟨_, rfl, (hS.partD (.cons _ (.cons_cons _ (.cons_cons _ .slnil))) 1 rfl (.refl _)), ?_⟩
             intro a hA
             refine any_one (by kernel_rfl) (op_call hA 27 rfl rfl rfl rfl (enters_func  rfl rfl (fun w => by kernel_rfl)) (rtimes_as hd9 _ _ (hS.rd 2 rfl) (hS.rd 9 rfl) (by omega) (by omega)) ?_)
             rintro _ w273 ⟨ro269, rc270, rfl, ho271, hb272⟩
             replace hS := hS.call hb272
             replace hS := hS.addR ho271.rd
             refine ⟨_, rfl, (hS.partD (.cons _ (.cons_cons _ (.cons_cons _ .slnil))) 2 rfl (.refl _)), ?_⟩
             intro a hA
             refine any_tk (v := .agg #[.bool ((rb (P * u).num)), .slice ro264 ((words (P * u).num.natAbs).length) rc265, .slice ro269 ((words (P * u).den).length) rc270]) hA 28 rfl rfl rfl rfl hP (hS.partD (.cons _ (.cons_cons _ (.cons_cons _ .slnil))) 2 rfl (.refl _)) (fun w1 hS => d_build rfl (fun w => by kernel_rfl)) ?_
             intro a hA
             refine any_tk (v := .pointer (some ⟨g33, 0, none⟩)) hA 29 rfl rfl rfl rfl hP (hS.partD (.cons _ (.cons_cons _ (.cons_cons _ .slnil))) 2 rfl (.refl _)) (fun w1 hS => d_field SmG_fld_26_0 rfl rfl) ?_
             intro a hA
             refine any_one (by kernel_rfl) (op_store (us := [.bool ((rb (P * u).num)), .slice ro264 ((words (P * u).num.natAbs).length) rc265, .slice ro269 ((words (P * u).den).length) rc270, .bool false, .slice p29_3 0 p29_c3, .slice p29_4 1 p29_c4]) hA hS 30 rfl rfl rfl (sets_store rfl rfl rfl (by kernel_rfl) hS 0 rfl rfl rfl) 0 rfl rfl rfl rfl ?_)
             intro w274 hS
             refine ⟨(hS.partD (.cons _ (.cons_cons _ (.cons_cons _ .slnil))) 2 rfl (.refl _)), ?_⟩
             refine any_end (by kernel_rfl) ?_
             refine hJ188 _ _ ⟨ro264, rc265, ro269, rc270, hA.keep _ ⟨rfl, rfl, rfl, rfl, rfl, rfl, rfl, rfl, rfl, rfl, rfl, rfl, rfl, rfl, rfl, rfl, rfl, rfl, rfl, rfl, rfl, rfl, rfl, rfl, rfl, rfl, rfl, trivial⟩, (St.pickRL hS ⟨⟨0, rfl⟩, ⟨⟨1, rfl⟩, ⟨⟨2, rfl⟩, ⟨⟨3, rfl⟩, ⟨⟨4, rfl⟩, ⟨⟨5, rfl⟩, ⟨⟨6, rfl⟩, ⟨⟨7, rfl⟩, ⟨⟨8, rfl⟩, ⟨⟨9, rfl⟩, ⟨⟨10, rfl⟩, ⟨⟨11, rfl⟩, trivial⟩⟩⟩⟩⟩⟩⟩⟩⟩⟩⟩⟩ [0, 1, 2] rfl (by decide)), ho271.nocap, ho271.caps, ho266.nocap, ho266.caps⟩
           · refine op_do hA 16 rfl rfl rfl rfl (d_load1 hS SmG_is1_22 rfl 0 rfl rfl) (hS.partD (.cons _ (.cons_cons _ (.cons_cons _ .slnil))) 0 rfl (.refl _)) ?_
             intro a hA
             refine any_one (by kernel_rfl) (op_do hA 2 rfl rfl rfl rfl (d_load1 hS SmG_is1_4 rfl 0 rfl rfl) (hS.partD (.cons _ (.cons_cons _ (.cons_cons _ .slnil))) 0 rfl (.refl _)) ?_)
             intro a hA
             refine any_tk (v := .bool true) hA 6 rfl rfl rfl rfl hP (hS.partD (.cons _ (.cons_cons _ (.cons_cons _ .slnil))) 0 rfl (.refl _)) (fun w1 hS => d_bin rfl rfl (fun w => ((bin_neqB Tryz.underlying4) w).trans (by rw [show (!((rb P.num) == rb u.num)) = true from (by rw [hb47, hsu]; rfl)]))) ?_
             intro a hA
             refine any_tk hA 7 rfl rfl rfl rfl hP (hS.partD (.cons _ (.cons_cons _ (.cons_cons _ .slnil))) 0 rfl (.refl _)) (fun w1 hS => d_move rfl) ?_
             intro a hA
             refine any_tk (v := .pointer (some ⟨g2, 0, none⟩)) hA 8 rfl rfl rfl rfl hP (hS.partD (.cons _ (.cons_cons _ (.cons_cons _ .slnil))) 0 rfl (.refl _)) (fun w1 hS => d_field SmG_fld_26_0 rfl rfl) ?_
             intro a hA
             refine any_tk (v := .pointer (some ⟨g2, 1, none⟩)) hA 9 rfl rfl rfl rfl hP (hS.partD (.cons _ (.cons_cons _ (.cons_cons _ .slnil))) 0 rfl (.refl _)) (fun w1 hS => d_field SmG_fld_24_1 rfl rfl) ?_
             intro a hA
             refine any_tk hA 10 rfl rfl rfl rfl hP (hS.partD (.cons _ (.cons_cons _ (.cons_cons _ .slnil))) 0 rfl (.refl _)) (fun w1 hS => d_load1 hS SmG_is1_22 rfl 1 rfl rfl) ?_
             intro a hA
             refine any_tk (v := .int .i64 ((((words u.num.natAbs).length : Nat) : Int))) hA 11 rfl rfl rfl rfl hP (hS.partD (.cons _ (.cons_cons _ (.cons_cons _ .slnil))) 0 rfl (.refl _)) (fun w1 hS => d_len Tryz.underlying22 rfl) ?_
             intro a hA
             refine any_tk (v := .bool true) hA 12 rfl rfl rfl rfl hP (hS.partD (.cons _ (.cons_cons _ (.cons_cons _ .slnil))) 0 rfl (.refl _)) (fun w1 hS => d_bin rfl rfl (fun w => (bin_gtr w).trans (by rw [show (decide (0 < (((words u.num.natAbs).length : Nat) : Int))) = true from (decide_eq_true (by omega))]))) ?_
             intro a hA
             refine any_tk (v := .bool ((rb (P * u).num))) hA 13 rfl rfl rfl rfl hP (hS.partD (.cons _ (.cons_cons _ (.cons_cons _ .slnil))) 0 rfl (.refl _)) (fun w1 hS => d_pick rfl rfl rfl (by rw [hsg9, hb47]; rfl)) ?_
             intro a hA
             refine any_one (by kernel_rfl) (op_call hA 20 rfl rfl rfl rfl (enters_func  rfl rfl (fun w => by kernel_rfl)) (rtimes_as hn9 _ _ (hS.rd 0 rfl) (hS.rd 9 rfl) (by omega) (by omega)) ?_)
             rintro _ w279 ⟨ro275, rc276, rfl, ho277, hb278⟩
             replace hS := hS.call hb278
             replace hS := hS.addR ho277.rd
             refine ⟨_, rfl, (hS.partD (.cons _ (.cons_cons _ (.cons_cons _ .slnil))) 1 rfl (.refl _)), ?_⟩
             intro a hA
             refine any_one (by kernel_rfl) (op_call hA 27 rfl rfl rfl rfl (enters_func  rfl rfl (fun w => by kernel_rfl)) (rtimes_as hd9 _ _ (hS.rd 2 rfl) (hS.rd 9 rfl) (by omega) (by omega)) ?_)
             rintro _ w284 ⟨ro280, rc281, rfl, ho282, hb283⟩
             replace hS := hS.call hb283
             replace hS := hS.addR ho282.rd
             refine ⟨_, rfl, (hS.partD (.cons _ (.cons_cons _ (.cons_cons _ .slnil))) 2 rfl (.refl _)), ?_⟩
             intro a hA
             refine any_tk (v := .agg #[.bool ((rb (P * u).num)), .slice ro275 ((words (P * u).num.natAbs).length) rc276, .slice ro280 ((words (P * u).den).length) rc281]) hA 28 rfl rfl rfl rfl hP (hS.partD (.cons _ (.cons_cons _ (.cons_cons _ .slnil))) 2 rfl (.refl _)) (fun w1 hS => d_build rfl (fun w => by kernel_rfl)) ?_
             intro a hA
             refine any_tk (v := .pointer (some ⟨g33, 0, none⟩)) hA 29 rfl rfl rfl rfl hP (hS.partD (.cons _ (.cons_cons _ (.cons_cons _ .slnil))) 2 rfl (.refl _)) (fun w1 hS => d_field SmG_fld_26_0 rfl rfl) ?_
             intro a hA
             refine any_one (by kernel_rfl) (op_store (us := [.bool ((rb (P * u).num)), .slice ro275 ((words (P * u).num.natAbs).length) rc276, .slice ro280 ((words (P * u).den).length) rc281, .bool false, .slice p29_3 0 p29_c3, .slice p29_4 1 p29_c4]) hA hS 30 rfl rfl rfl (sets_store rfl rfl rfl (by kernel_rfl) hS 0 rfl rfl rfl) 0 rfl rfl rfl rfl ?_)
             intro w285 hS
             refine ⟨(hS.partD (.cons _ (.cons_cons _ (.cons_cons _ .slnil))) 2 rfl (.refl _)), ?_⟩
             refine any_end (by kernel_rfl) ?_
             refine hJ188 _ _ ⟨ro275, rc276, ro280, rc281, hA.keep _ ⟨rfl, rfl, rfl, rfl, rfl, rfl, rfl, rfl, rfl, rfl, rfl, rfl, rfl, rfl, rfl, rfl, rfl, rfl, rfl, rfl, rfl, rfl, rfl, rfl, rfl, rfl, rfl, trivial⟩, (St.pickRL hS ⟨⟨0, rfl⟩, ⟨⟨1, rfl⟩, ⟨⟨2, rfl⟩, ⟨⟨3, rfl⟩, ⟨⟨4, rfl⟩, ⟨⟨5, rfl⟩, ⟨⟨6, rfl⟩, ⟨⟨7, rfl⟩, ⟨⟨8, rfl⟩, ⟨⟨9, rfl⟩, ⟨⟨10, rfl⟩, ⟨⟨11, rfl⟩, trivial⟩⟩⟩⟩⟩⟩⟩⟩⟩⟩⟩⟩ [0, 1, 2] rfl (by decide)), ho282.nocap, ho282.caps, ho277.nocap, ho277.caps⟩
     · have hb43' := of_decide_eq_false hb43
       refine seq_do (v := .bool false) hA rfl rfl rfl (d_bin rfl rfl (fun w => (bin_lss w).trans (by rw [hb43]))) ?_
       intro a hA
       refine seq_end ?_
       refine hK42 _ _ ?_
       refine wp_cond_false (hA.ev rfl) ?_
       refine wp_exit ?_
       refine hK36 _ _ ?_
       refine wp_seq_k (fun K286 hK286 => ?_)
       refine wp_seq_k (fun K287 hK287 => ?_)
       refine wp_region_lit ?_
       refine seq_do hA rfl rfl rfl (d_move rfl) ?_
       intro a hA
       refine seq_do (v := .bool (decide (n < 0))) hA rfl rfl rfl (d_bin rfl rfl bin_lss) ?_
       intro a hA
       refine seq_end ?_
       refine hK287 _ _ ?_
       refine wp_cond_split (t := decide (n < 0)) (hA.ev rfl) (fun hc288 => ?_) (fun hc288 => ?_)
       · have hc288' := of_decide_eq_true hc288
         refine wp_region_lit ?_
         refine seq_do hA rfl rfl rfl (d_loadS hS SmG_isS_26 rfl 0 rfl (cs := [.bool ((rb P.num)), .slice po1 ((words P.num.natAbs).length) poc1, .slice po2 ((words P.den).length) poc2, .bool false, .slice p29_3 0 p29_c3, .slice p29_4 1 p29_c4]) rfl rfl) ?_
         intro a hA
         refine seq_call hA rfl rfl rfl (enters_func  rfl rfl (fun w => by kernel_rfl)) (rinv0_any (show Nm _ (Q6.real P) po1 poc1 po2 poc2 p29_3 p29_c3 p29_4 p29_c4 from ⟨⟨(hS.rd 0 rfl), kn1.1, kn1.2⟩, ⟨(hS.rd 1 rfl), kn2.1, kn2.2⟩, ⟨(hS.rd 3 rfl), hn30.s3.nil, hn30.s3.cap⟩, ⟨(hS.rd 2 rfl), hn30.s4.nil, hn30.s4.cap⟩⟩) LP (fun c => hz (by omega) (pow_zero9 hPw hv0 c)) (iv_fst (by omega) hp9 j0) (iv_snd (by omega) hp9 j0)) ?_
         rintro _ w292 ⟨p289_1, p289_c1, p289_2, p289_c2, p289_3, p289_c3, p289_4, p289_c4, rfl, hn290, hb291⟩
         replace hS := hS.call hb291
         replace hS := hS.addR hn290.s1.rd
         replace hS := hS.addR hn290.s2.rd
         replace hS := hS.addR hn290.s3.rd
         replace hS := hS.addR hn290.s4.rd
         refine ⟨_, rfl, ?_⟩
         intro a hA
         refine seq_store (us := [.bool (rb i1.num), .slice p289_1 ((words i1.num.natAbs).length) p289_c1, .slice p289_2 ((words i1.den).length) p289_c2, .bool (rb i2.num), .slice p289_3 ((words i2.num.natAbs).length) p289_c3, .slice p289_4 ((words i2.den).length) p289_c4]) hA hS rfl rfl (sets_store rfl rfl rfl (by kernel_rfl) hS 0 rfl rfl rfl) 0 rfl rfl rfl rfl ?_
         intro w293 hS
         refine seq_end ?_
         refine hK286 _ _ ?_
         refine wp_seq_k (fun K294 hK294 => ?_)
         refine wp_region_lit ?_
         refine seq_do hA rfl rfl rfl (d_loadS hS SmG_isS_26 rfl 0 rfl (cs := [.bool (rb i1.num), .slice p289_1 ((words i1.num.natAbs).length) p289_c1, .slice p289_2 ((words i1.den).length) p289_c2, .bool (rb i2.num), .slice p289_3 ((words i2.num.natAbs).length) p289_c3, .slice p289_4 ((words i2.den).length) p289_c4]) rfl rfl) ?_
         intro a hA
         refine seq_call hA rfl rfl rfl (enters_func  rfl rfl (fun w => by kernel_rfl)) (rfit_any (show Nm _ (Q6.rat i1 i2) p289_1 p289_c1 p289_2 p289_c2 p289_3 p289_c3 p289_4 p289_c4 from ⟨⟨(hS.rd 3 rfl), hn290.s1.nil, hn290.s1.cap⟩, ⟨(hS.rd 2 rfl), hn290.s2.nil, hn290.s2.cap⟩, ⟨(hS.rd 1 rfl), hn290.s3.nil, hn290.s3.cap⟩, ⟨(hS.rd 0 rfl), hn290.s4.nil, hn290.s4.cap⟩⟩) (LI (by omega) ((show i = N by omega) ▸ hB9)).1 (LI (by omega) ((show i = N by omega) ▸ hB9)).2) ?_
         rintro _ w298 ⟨p295_1, p295_c1, p295_2, p295_c2, p295_3, p295_c3, p295_4, p295_c4, rfl, hn296, hb297⟩
         replace hS := hS.call hb297
         replace hS := hS.addR hn296.s1.rd
         replace hS := hS.addR hn296.s2.rd
         replace hS := hS.addR hn296.s3.rd
         replace hS := hS.addR hn296.s4.rd
         refine ⟨_, rfl, ?_⟩
         intro a hA
         refine seq_do (v := .agg #[.bool ((ratS i1 i2).1.b1), .slice p295_1 (((ratS i1 i2).1.t1).length) p295_c1, .slice p295_2 (((ratS i1 i2).1.q1).length) p295_c2, .bool ((ratS i1 i2).1.b2), .slice p295_3 (((ratS i1 i2).1.t2).length) p295_c3, .slice p295_4 (((ratS i1 i2).1.q2).length) p295_c4]) hA rfl rfl rfl (d_extract (vs := [.agg #[.bool ((ratS i1 i2).1.b1), .slice p295_1 (((ratS i1 i2).1.t1).length) p295_c1, .slice p295_2 (((ratS i1 i2).1.q1).length) p295_c2, .bool ((ratS i1 i2).1.b2), .slice p295_3 (((ratS i1 i2).1.t2).length) p295_c3, .slice p295_4 (((ratS i1 i2).1.q2).length) p295_c4], .int .i64 ((ratS i1 i2).2)]) rfl rfl) ?_
         intro a hA
         refine seq_do (v := .int .i64 ((ratS i1 i2).2)) hA rfl rfl rfl (d_extract (vs := [.agg #[.bool ((ratS i1 i2).1.b1), .slice p295_1 (((ratS i1 i2).1.t1).length) p295_c1, .slice p295_2 (((ratS i1 i2).1.q1).length) p295_c2, .bool ((ratS i1 i2).1.b2), .slice p295_3 (((ratS i1 i2).1.t2).length) p295_c3, .slice p295_4 (((ratS i1 i2).1.q2).length) p295_c4], .int .i64 ((ratS i1 i2).2)]) rfl rfl) ?_
         intro a hA
         refine seq_store (us := [.bool ((ratS i1 i2).1.b1), .slice p295_1 (((ratS i1 i2).1.t1).length) p295_c1, .slice p295_2 (((ratS i1 i2).1.q1).length) p295_c2, .bool ((ratS i1 i2).1.b2), .slice p295_3 (((ratS i1 i2).1.t2).length) p295_c3, .slice p295_4 (((ratS i1 i2).1.q2).length) p295_c4]) hA hS rfl rfl (sets_store rfl rfl rfl (by kernel_rfl) hS 1 rfl rfl rfl) 1 rfl rfl rfl rfl ?_
         intro w299 hS
         refine seq_do hA rfl rfl rfl (d_assign rfl) ?_
         intro a hA
         refine seq_end ?_
         refine hK294 _ _ ?_
         refine wp_ret ?_
         refine hret _ _ ?_
         refine ends (v := .tuple #[.agg #[.bool ((ratS i1 i2).1.b1), .slice p295_1 (((ratS i1 i2).1.t1).length) p295_c1, .slice p295_2 (((ratS i1 i2).1.q1).length) p295_c2, .bool ((ratS i1 i2).1.b2), .slice p295_3 (((ratS i1 i2).1.t2).length) p295_c3, .slice p295_4 (((ratS i1 i2).1.q2).length) p295_c4], .int .i64 ((ratS i1 i2).2)]) hA rfl (.cons (res_cell hS SmG_isS_26 rfl 1 rfl (cs := [.bool ((ratS i1 i2).1.b1), .slice p295_1 (((ratS i1 i2).1.t1).length) p295_c1, .slice p295_2 (((ratS i1 i2).1.q1).length) p295_c2, .bool ((ratS i1 i2).1.b2), .slice p295_3 (((ratS i1 i2).1.t2).length) p295_c3, .slice p295_4 (((ratS i1 i2).1.q2).length) p295_c4]) rfl rfl) (.cons (res_tmp rfl) .nil)) rfl ?_
         obtain rfl : i = N := by omega
         rw [ex_neg hu hv hN h1 h2 (by omega) (hz (by omega)), if_pos hB9, j0]
         show AnsN w (ratS i1 i2) _ _
         exact ⟨p295_1, p295_c1, p295_2, p295_c2, p295_3, p295_c3, p295_4, p295_c4, rfl, ⟨⟨(hS.rd 3 rfl), hn296.s1.nil, hn296.s1.cap⟩, ⟨(hS.rd 2 rfl), hn296.s2.nil, hn296.s2.cap⟩, ⟨(hS.rd 1 rfl), hn296.s3.nil, hn296.s3.cap⟩, ⟨(hS.rd 0 rfl), hn296.s4.nil, hn296.s4.cap⟩⟩, hS.bel⟩
       · have hc288' := of_decide_eq_false hc288
         refine wp_skip ?_
         refine hK286 _ _ ?_
         refine wp_seq_k (fun K300 hK300 => ?_)
         refine wp_region_lit ?_
         refine seq_do hA rfl rfl rfl (d_loadS hS SmG_isS_26 rfl 0 rfl (cs := [.bool ((rb P.num)), .slice po1 ((words P.num.natAbs).length) poc1, .slice po2 ((words P.den).length) poc2, .bool false, .slice p29_3 0 p29_c3, .slice p29_4 1 p29_c4]) rfl rfl) ?_
         intro a hA
         refine seq_call hA rfl rfl rfl (enters_func  rfl rfl (fun w => by kernel_rfl)) (rfit0_any (show Nm _ (Q6.real P) po1 poc1 po2 poc2 p29_3 p29_c3 p29_4 p29_c4 from ⟨⟨(hS.rd 0 rfl), kn1.1, kn1.2⟩, ⟨(hS.rd 1 rfl), kn2.1, kn2.2⟩, ⟨(hS.rd 3 rfl), hn30.s3.nil, hn30.s3.cap⟩, ⟨(hS.rd 2 rfl), hn30.s4.nil, hn30.s4.cap⟩⟩) (LP.mono (by decide))) ?_
         rintro _ w304 ⟨p301_1, p301_c1, p301_2, p301_c2, p301_3, p301_c3, p301_4, p301_c4, rfl, hn302, hb303⟩
         replace hS := hS.call hb303
         replace hS := hS.addR hn302.s1.rd
         replace hS := hS.addR hn302.s2.rd
         replace hS := hS.addR hn302.s3.rd
         replace hS := hS.addR hn302.s4.rd
         refine ⟨_, rfl, ?_⟩
         intro a hA
         refine seq_do (v := .agg #[.bool ((ratS P 0).1.b1), .slice p301_1 (((ratS P 0).1.t1).length) p301_c1, .slice p301_2 (((ratS P 0).1.q1).length) p301_c2, .bool ((ratS P 0).1.b2), .slice p301_3 (((ratS P 0).1.t2).length) p301_c3, .slice p301_4 (((ratS P 0).1.q2).length) p301_c4]) hA rfl rfl rfl (d_extract (vs := [.agg #[.bool ((ratS P 0).1.b1), .slice p301_1 (((ratS P 0).1.t1).length) p301_c1, .slice p301_2 (((ratS P 0).1.q1).length) p301_c2, .bool ((ratS P 0).1.b2), .slice p301_3 (((ratS P 0).1.t2).length) p301_c3, .slice p301_4 (((ratS P 0).1.q2).length) p301_c4], .int .i64 ((ratS P 0).2)]) rfl rfl) ?_
         intro a hA
         refine seq_do (v := .int .i64 ((ratS P 0).2)) hA rfl rfl rfl (d_extract (vs := [.agg #[.bool ((ratS P 0).1.b1), .slice p301_1 (((ratS P 0).1.t1).length) p301_c1, .slice p301_2 (((ratS P 0).1.q1).length) p301_c2, .bool ((ratS P 0).1.b2), .slice p301_3 (((ratS P 0).1.t2).length) p301_c3, .slice p301_4 (((ratS P 0).1.q2).length) p301_c4], .int .i64 ((ratS P 0).2)]) rfl rfl) ?_
         intro a hA
         refine seq_store (us := [.bool ((ratS P 0).1.b1), .slice p301_1 (((ratS P 0).1.t1).length) p301_c1, .slice p301_2 (((ratS P 0).1.q1).length) p301_c2, .bool ((ratS P 0).1.b2), .slice p301_3 (((ratS P 0).1.t2).length) p301_c3, .slice p301_4 (((ratS P 0).1.q2).length) p301_c4]) hA hS rfl rfl (sets_store rfl rfl rfl (by kernel_rfl) hS 1 rfl rfl rfl) 1 rfl rfl rfl rfl ?_
         intro w305 hS
         refine seq_do hA rfl rfl rfl (d_assign rfl) ?_
         intro a hA
         refine seq_end ?_
         refine hK300 _ _ ?_
         refine wp_ret ?_
         refine hret _ _ ?_
         refine ends (v := .tuple #[.agg #[.bool ((ratS P 0).1.b1), .slice p301_1 (((ratS P 0).1.t1).length) p301_c1, .slice p301_2 (((ratS P 0).1.q1).length) p301_c2, .bool ((ratS P 0).1.b2), .slice p301_3 (((ratS P 0).1.t2).length) p301_c3, .slice p301_4 (((ratS P 0).1.q2).length) p301_c4], .int .i64 ((ratS P 0).2)]) hA rfl (.cons (res_cell hS SmG_isS_26 rfl 1 rfl (cs := [.bool ((ratS P 0).1.b1), .slice p301_1 (((ratS P 0).1.t1).length) p301_c1, .slice p301_2 (((ratS P 0).1.q1).length) p301_c2, .bool ((ratS P 0).1.b2), .slice p301_3 (((ratS P 0).1.t2).length) p301_c3, .slice p301_4 (((ratS P 0).1.q2).length) p301_c4]) rfl rfl) (.cons (res_tmp rfl) .nil)) rfl ?_
         obtain rfl : i = N := by omega
         rw [ex_pos hu hv hN h1 h2 (by omega), if_pos hB9, hp9]
         show AnsN w (ratS _ _) _ _
         exact ⟨p301_1, p301_c1, p301_2, p301_c2, p301_3, p301_c3, p301_4, p301_c4, rfl, ⟨⟨(hS.rd 3 rfl), hn302.s1.nil, hn302.s1.cap⟩, ⟨(hS.rd 2 rfl), hn302.s2.nil, hn302.s2.cap⟩, ⟨(hS.rd 1 rfl), hn302.s3.nil, hn302.s3.cap⟩, ⟨(hS.rd 0 rfl), hn302.s4.nil, hn302.s4.cap⟩⟩, hS.bel⟩
   refine wp_cond_split (t := decide (n < 0)) (hA.ev rfl) (fun hc306 => ?_) (fun hc306 => ?_)
   · have hc306' := of_decide_eq_true hc306
     refine wp_region_lit ?_
     refine seq_do hA rfl rfl rfl (d_move rfl) ?_
     intro a hA
     refine seq_do (v := .int .i64 (((N : Nat) : Int))) hA rfl rfl rfl (d_un rfl (ar_neg (show IntKind.i64.wrap (-n) = ((N : Nat) : Int) from (in_i64 (by omega) (by omega)).trans (by omega)))) ?_
     intro a hA
     refine seq_do hA rfl rfl rfl (d_assign rfl) ?_
     intro a hA
     refine seq_end ?_
     exact hJ26 _ _ ⟨hA.keep _ ⟨rfl, rfl, rfl, rfl, rfl, rfl, rfl, rfl, rfl, rfl, rfl, rfl, rfl, rfl, rfl, rfl, rfl, rfl, rfl, rfl, trivial⟩, hS⟩
   · have hc306' := of_decide_eq_false hc306
     refine wp_skip ?_
     exact hJ26 _ _ ⟨hA.keep _ ⟨rfl, rfl, rfl, rfl, rfl, (congrArg (fun z => some (Value.int .i64 z)) (show n = ((N : Nat) : Int) by omega)), rfl, rfl, rfl, rfl, rfl, rfl, rfl, rfl, rfl, rfl, rfl, rfl, rfl, rfl, trivial⟩, hS⟩
 refine wp_region_lit ?_
 refine seq_do hA rfl rfl rfl (d_loadS hS SmG_isS_26 rfl 1 rfl (cs := [.bool (rb u.num), .slice a1 ((words u.num.natAbs).length) ac1, .slice a2 ((words u.den).length) ac2, .bool (rb v.num), .slice a3 ((words v.num.natAbs).length) ac3, .slice a4 ((words v.den).length) ac4]) rfl rfl) ?_
 intro a hA
 rcases Bool.eq_false_or_eq_true (decide (u = 0 ∧ v = 0)) with hb307 | hb307
 · have hb307' := of_decide_eq_true hb307
   refine seq_call hA rfl rfl rfl (enters_func  rfl rfl (fun w => by kernel_rfl)) (risZero_any (show Nm _ (Q6.rat u v) a1 ac1 a2 ac2 a3 ac3 a4 ac4 from ⟨⟨(hS.rd 3 rfl), ha.s1.nil, ha.s1.cap⟩, ⟨(hS.rd 2 rfl), ha.s2.nil, ha.s2.cap⟩, ⟨(hS.rd 1 rfl), ha.s3.nil, ha.s3.cap⟩, ⟨(hS.rd 0 rfl), ha.s4.nil, ha.s4.cap⟩⟩) hu hv hb307) ?_
   rintro _ w309 ⟨rfl, hb308⟩
   replace hS := hS.call hb308
   refine ⟨_, rfl, ?_⟩
   intro a hA
   refine seq_do hA rfl rfl rfl (d_move rfl) ?_
   intro a hA
   refine seq_do hA rfl rfl rfl (d_move rfl) ?_
   intro a hA
   refine seq_do (v := .bool false) hA rfl rfl rfl (d_bin rfl rfl (fun w => (bin_lss w).trans (by rw [show (decide (n < 0)) = false from (decide_eq_false (fun c => hz c (of_decide_eq_true hb307)))]))) ?_
   intro a hA
   refine seq_do (v := .bool false) hA rfl rfl rfl (d_pick rfl rfl rfl rfl) ?_
   intro a hA
   refine seq_end ?_
   exact hJ21 _ _ ⟨hA.keep _ ⟨rfl, rfl, rfl, rfl, rfl, rfl, rfl, rfl, rfl, rfl, rfl, rfl, rfl, rfl, rfl, rfl, rfl, trivial⟩, hS⟩
 · have hb307' := of_decide_eq_false hb307
   refine seq_call hA rfl rfl rfl (enters_func  rfl rfl (fun w => by kernel_rfl)) (risZero_any (show Nm _ (Q6.rat u v) a1 ac1 a2 ac2 a3 ac3 a4 ac4 from ⟨⟨(hS.rd 3 rfl), ha.s1.nil, ha.s1.cap⟩, ⟨(hS.rd 2 rfl), ha.s2.nil, ha.s2.cap⟩, ⟨(hS.rd 1 rfl), ha.s3.nil, ha.s3.cap⟩, ⟨(hS.rd 0 rfl), ha.s4.nil, ha.s4.cap⟩⟩) hu hv hb307) ?_
   rintro _ w311 ⟨rfl, hb310⟩
   replace hS := hS.call hb310
   refine ⟨_, rfl, ?_⟩
   intro a hA
   refine seq_do hA rfl rfl rfl (d_move rfl) ?_
   intro a hA
   refine seq_skip hA rfl rfl rfl ?_
   intro a hA
   refine seq_skip hA rfl rfl rfl ?_
   intro a hA
   refine seq_do (v := .bool false) hA rfl rfl rfl (d_pick rfl rfl rfl rfl) ?_
   intro a hA
   refine seq_end ?_
   exact hJ21 _ _ ⟨hA.keep _ ⟨rfl, rfl, rfl, rfl, rfl, rfl, rfl, rfl, rfl, rfl, rfl, rfl, rfl, rfl, rfl, rfl, rfl, trivial⟩, hS⟩
end Go.Proofs.YthlkbnhbmfmchaaGreat
namespace Go.Proofs.YthlkbnhbmfmchaaGreat
open Go.RowKit
set_option linter.unusedVariables false
set_option linter.unusedSimpArgs false
set_option maxRecDepth 100000
theorem SmI_isS_26 : IsS Tryz.prog 26 6 := ⟨⟨_, Tryz.underlying26⟩, by kernel_rfl⟩
theorem lenR_subA {u v : Rat} {k : Nat} (hu : LenR k u) (hv : LenR k v) : LenR (k + k + 1) (u - v) := by
  rw [Rat.sub_eq_add_neg]
  exact lenR_add hu (lenR_neg hv)
set_option maxHeartbeats 2000000 in
theorem rexC_any {w : World} {u v : Rat} {a1 a2 a3 a4 : Option Addr} {ac1 ac2 ac3 ac4 : Nat} (ha : Nm w (Q6.rat u v) a1 ac1 a2 ac2 a3 ac3 a4 ac4) (hu : fitR u) (hv : fitR v) {n : Int} {N : Nat} (hN : n.natAbs = N) (h1 : 1 ≤ N) (h2 : N ≤ 1024) (hz : n < 0 → ¬ (u = 0 ∧ v = 0)) (k2 : decide ((Q6.rat u v).t2.length = 0) = false) (LU : LenR 512 u) (LV : LenR 512 v) {i1 i2 : Rat} (j0 : ivR (pwR u v N) = (i1, i2)) (LI : n < 0 → pwB u v N = true → LenR 9000 i1 ∧ LenR 9000 i2) : Calls Tryz.prog 31 #[numV (Q6.rat u v) a1 ac1 a2 ac2 a3 ac3 a4 ac4, .int .i64 n] w (AnsN w (exptQ (Q6.rat u v) n)) := by
 have hS : St w w [] [(a4, words v.den), (a3, words v.num.natAbs), (a2, words u.den), (a1, words u.num.natAbs)] [] := ((((St.start w).addR ha.s1.rd).addR ha.s2.rd).addR ha.s3.rd).addR ha.s4.rd
 refine walk_of (l := [(0, .agg #[.bool (rb u.num), .slice a1 ((words u.num.natAbs).length) ac1, .slice a2 ((words u.den).length) ac2, .bool (rb v.num), .slice a3 ((words v.num.natAbs).length) ac3, .slice a4 ((words v.den).length) ac4]), (1, .int .i64 n)]) Tryz.func31 rfl Tryz.ntmps31 rfl rfl ?_
 intro Q hret hnorm hP a hA
 refine wp_seq_k (fun K1 hK1 => ?_)
 refine wp_region_lit ?_
 refine seq_new hA hS rfl rfl rfl (fun g => .pointer (some ⟨g, 0, none⟩)) (d_box rfl rfl) rfl ?_
 intro g2 w3 hS a hA
 refine seq_new (vs := [.bool false, .slice none 0 0, .slice none 0 0, .bool false, .slice none 0 0, .slice none 0 0]) (t := 26) hA hS rfl rfl rfl (fun g => .pointer (some ⟨g, 0, none⟩)) (d_alloc (z := .agg #[.bool false, .slice none 0 0, .slice none 0 0, .bool false, .slice none 0 0, .slice none 0 0]) (by kernel_rfl) rfl) rfl ?_
 intro g4 w5 hS a hA
 refine seq_do hA rfl rfl rfl (d_assign rfl) ?_
 intro a hA
 refine seq_end ?_
 refine hK1 _ _ ?_
 refine wp_seq_k (fun K6 hK6 => ?_)
 refine wp_seq_k (fun K7 hK7 => ?_)
 refine wp_region_lit ?_
 refine seq_do hA rfl rfl rfl (d_loadS hS SmI_isS_26 rfl 1 rfl (cs := [.bool (rb u.num), .slice a1 ((words u.num.natAbs).length) ac1, .slice a2 ((words u.den).length) ac2, .bool (rb v.num), .slice a3 ((words v.num.natAbs).length) ac3, .slice a4 ((words v.den).length) ac4]) rfl rfl) ?_
 intro a hA
 refine seq_call hA rfl rfl rfl (enters_func  rfl rfl (fun w => by kernel_rfl)) (rsoundQ_any (show Nm _ (Q6.rat u v) a1 ac1 a2 ac2 a3 ac3 a4 ac4 from ⟨⟨(hS.rd 3 rfl), ha.s1.nil, ha.s1.cap⟩, ⟨(hS.rd 2 rfl), ha.s2.nil, ha.s2.cap⟩, ⟨(hS.rd 1 rfl), ha.s3.nil, ha.s3.cap⟩, ⟨(hS.rd 0 rfl), ha.s4.nil, ha.s4.cap⟩⟩) (lenQ_rat hu hv) (soundQ_rat hu hv)) ?_
 rintro _ w9 ⟨rfl, hb8⟩
 replace hS := hS.call hb8
 refine ⟨_, rfl, ?_⟩
 intro a hA
 refine seq_do (v := .bool false) hA rfl rfl rfl (d_un rfl un_not) ?_
 intro a hA
 refine seq_end ?_
 refine hK7 _ _ ?_
 refine wp_cond_false (hA.ev rfl) ?_
 refine wp_skip ?_
 refine hK6 _ _ ?_
 refine wp_seq_k (fun K10 hK10 => ?_)
 refine wp_seq_k (fun K11 hK11 => ?_)
 refine wp_region_lit ?_
 refine seq_do hA rfl rfl rfl (d_move rfl) ?_
 intro a hA
 refine seq_do (v := .bool false) hA rfl rfl rfl (d_bin rfl rfl (fun w => (bin_lss w).trans (by rw [show (decide (n < -1024)) = false from (decide_eq_false (by omega))]))) ?_
 intro a hA
 refine seq_do hA rfl rfl rfl (d_move rfl) ?_
 intro a hA
 refine seq_do hA rfl rfl rfl (d_move rfl) ?_
 intro a hA
 refine seq_do (v := .bool false) hA rfl rfl rfl (d_bin rfl rfl (fun w => (bin_gtr w).trans (by rw [show (decide (1024 < n)) = false from (decide_eq_false (by omega))]))) ?_
 intro a hA
 refine seq_do (v := .bool false) hA rfl rfl rfl (d_pick rfl rfl rfl rfl) ?_
 intro a hA
 refine seq_end ?_
 refine hK11 _ _ ?_
 refine wp_cond_false (hA.ev rfl) ?_
 refine wp_skip ?_
 refine hK10 _ _ ?_
 refine wp_seq_k (fun K12 hK12 => ?_)
 refine wp_seq_k (fun K13 hK13 => ?_)
 refine wp_region_lit ?_
 refine seq_do hA rfl rfl rfl (d_move rfl) ?_
 intro a hA
 refine seq_do (v := .bool false) hA rfl rfl rfl (d_bin rfl rfl (fun w => (bin_eql w).trans (by rw [show ((n == 0)) = false from (beq_eq_false_iff_ne.2 (by omega))]))) ?_
 intro a hA
 refine seq_end ?_
 refine hK13 _ _ ?_
 refine wp_cond_false (hA.ev rfl) ?_
 refine wp_skip ?_
 refine hK12 _ _ ?_
 refine wp_seq_k (fun K14 hK14 => ?_)
 refine wp_seq_k (fun K15 hK15 => ?_)
 have hJ21 : ∀ a w1, (Sl a 87 [(0, .agg #[.bool (rb u.num), .slice a1 ((words u.num.natAbs).length) ac1, .slice a2 ((words u.den).length) ac2, .bool (rb v.num), .slice a3 ((words v.num.natAbs).length) ac3, .slice a4 ((words v.den).length) ac4]), (1, .int .i64 n), (2, .pointer (some ⟨g2, 0, none⟩)), (4, .pointer (some ⟨g4, 0, none⟩)), (5, .int .i64 0), (9, .agg #[.bool (rb u.num), .slice a1 ((words u.num.natAbs).length) ac1, .slice a2 ((words u.den).length) ac2, .bool (rb v.num), .slice a3 ((words v.num.natAbs).length) ac3, .slice a4 ((words v.den).length) ac4]), (10, .bool true), (11, .bool false), (13, .int .i64 n), (14, .bool false), (15, .bool false), (16, .int .i64 n), (17, .bool false), (18, .bool false), (20, .int .i64 n), (21, .bool false), (28, .bool false)] ∧ St w w1 [(g4, [.bool false, .slice none 0 0, .slice none 0 0, .bool false, .slice none 0 0, .slice none 0 0]), (g2, [.bool (rb u.num), .slice a1 ((words u.num.natAbs).length) ac1, .slice a2 ((words u.den).length) ac2, .bool (rb v.num), .slice a3 ((words v.num.natAbs).length) ac3, .slice a4 ((words v.den).length) ac4])] [(a4, words v.den), (a3, words v.num.natAbs), (a2, words u.den), (a1, words u.num.natAbs)] []) → K15 a w1 := by
   clear hA hS
   rintro a w22 ⟨hA, hS⟩
   refine hK15 _ _ ?_
   refine wp_cond_false (hA.ev rfl) ?_
   refine wp_skip ?_
   refine hK14 _ _ ?_
   refine wp_seq_k (fun K23 hK23 => ?_)
   refine wp_region_lit ?_
   refine seq_do hA rfl rfl rfl (d_move rfl) ?_
   intro a hA
   refine seq_do hA rfl rfl rfl (d_assign rfl) ?_
   intro a hA
   refine seq_end ?_
   refine hK23 _ _ ?_
   refine wp_seq_k (fun K24 hK24 => ?_)
   refine wp_seq_k (fun K25 hK25 => ?_)
   refine wp_region_lit ?_
   refine seq_do hA rfl rfl rfl (d_move rfl) ?_
   intro a hA
   refine seq_do (v := .bool (decide (n < 0))) hA rfl rfl rfl (d_bin rfl rfl bin_lss) ?_
   intro a hA
   refine seq_end ?_
   refine hK25 _ _ ?_
   have hJ26 : ∀ a w1, (Sl a 87 [(0, .agg #[.bool (rb u.num), .slice a1 ((words u.num.natAbs).length) ac1, .slice a2 ((words u.den).length) ac2, .bool (rb v.num), .slice a3 ((words v.num.natAbs).length) ac3, .slice a4 ((words v.den).length) ac4]), (1, .int .i64 n), (2, .pointer (some ⟨g2, 0, none⟩)), (4, .pointer (some ⟨g4, 0, none⟩)), (5, .int .i64 0), (6, .int .i64 (((N : Nat) : Int))), (9, .agg #[.bool (rb u.num), .slice a1 ((words u.num.natAbs).length) ac1, .slice a2 ((words u.den).length) ac2, .bool (rb v.num), .slice a3 ((words v.num.natAbs).length) ac3, .slice a4 ((words v.den).length) ac4]), (10, .bool true), (11, .bool false), (13, .int .i64 n), (14, .bool false), (15, .bool false), (16, .int .i64 n), (17, .bool false), (18, .bool false), (20, .int .i64 n), (21, .bool false), (28, .bool false), (30, .int .i64 n), (31, .int .i64 n)] ∧ St w w1 [(g4, [.bool false, .slice none 0 0, .slice none 0 0, .bool false, .slice none 0 0, .slice none 0 0]), (g2, [.bool (rb u.num), .slice a1 ((words u.num.natAbs).length) ac1, .slice a2 ((words u.den).length) ac2, .bool (rb v.num), .slice a3 ((words v.num.natAbs).length) ac3, .slice a4 ((words v.den).length) ac4])] [(a4, words v.den), (a3, words v.num.natAbs), (a2, words u.den), (a1, words u.num.natAbs)] []) → K24 a w1 := by
     clear hA hS
     rintro a w27 ⟨hA, hS⟩
     refine hK24 _ _ ?_
     refine wp_seq_k (fun K28 hK28 => ?_)
     refine wp_region_lit ?_
     refine seq_call hA rfl rfl rfl (enters_func  rfl rfl (fun w => by kernel_rfl)) (rint1c_any) ?_
     rintro _ w32 ⟨p29_1, p29_c1, p29_2, p29_c2, p29_3, p29_c3, p29_4, p29_c4, rfl, hn30, hb31⟩
     replace hS := hS.call hb31
     replace hS := hS.addR hn30.s1.rd
     replace hS := hS.addR hn30.s2.rd
     replace hS := hS.addR hn30.s3.rd
     replace hS := hS.addR hn30.s4.rd
     refine ⟨_, rfl, ?_⟩
     intro a hA
     refine seq_new (vs := [.bool false, .slice none 0 0, .slice none 0 0, .bool false, .slice none 0 0, .slice none 0 0]) (t := 26) hA hS rfl rfl rfl (fun g => .pointer (some ⟨g, 0, none⟩)) (d_alloc (z := .agg #[.bool false, .slice none 0 0, .slice none 0 0, .bool false, .slice none 0 0, .slice none 0 0]) (by kernel_rfl) rfl) rfl ?_
     intro g33 w34 hS a hA
     refine seq_store (us := [.bool (rb (1 : Rat).num), .slice p29_1 ((words (1 : Rat).num.natAbs).length) p29_c1, .slice p29_2 ((words (1 : Rat).den).length) p29_c2, .bool (rb (0 : Rat).num), .slice p29_3 ((words (0 : Rat).num.natAbs).length) p29_c3, .slice p29_4 ((words (0 : Rat).den).length) p29_c4]) hA hS rfl rfl (sets_store rfl rfl rfl (by kernel_rfl) hS 0 rfl rfl rfl) 0 rfl rfl rfl rfl ?_
     intro w35 hS
     refine seq_end ?_
     refine hK28 _ _ ?_
     refine wp_seq_k (fun K36 hK36 => ?_)
     refine wp_seq_k (fun K37 hK37 => ?_)
     refine wp_region_lit ?_
     refine seq_do hA rfl rfl rfl (d_assign rfl) ?_
     intro a hA
     refine seq_end ?_
     refine hK37 _ _ ?_
     refine wp_block ?_
     refine wp_loop_n (fun m a w1 => ∃ (i : Nat) (A : Rat) (B : Rat) (po1 : Option Addr) (poc1 : Nat) (po2 : Option Addr) (poc2 : Nat) (po3 : Option Addr) (poc3 : Nat) (po4 : Option Addr) (poc4 : Nat), m = N - i ∧ (i ≤ N ∧ pwR u v i = (A, B) ∧ pwB u v i = true ∧ LenR 512 A ∧ LenR 512 B ∧ Ncap po1 poc1 (words A.num.natAbs) ∧ Ncap po2 poc2 (words A.den) ∧ Ncap po3 poc3 (words B.num.natAbs) ∧ Ncap po4 poc4 (words B.den)) ∧ Sl a 87 [(0, .agg #[.bool (rb u.num), .slice a1 ((words u.num.natAbs).length) ac1, .slice a2 ((words u.den).length) ac2, .bool (rb v.num), .slice a3 ((words v.num.natAbs).length) ac3, .slice a4 ((words v.den).length) ac4]), (1, .int .i64 n), (2, .pointer (some ⟨g2, 0, none⟩)), (4, .pointer (some ⟨g4, 0, none⟩)), (6, .int .i64 (((N : Nat) : Int))), (7, .pointer (some ⟨g33, 0, none⟩)), (8, .int .i64 (((i : Nat) : Int))), (9, .agg #[.bool (rb u.num), .slice a1 ((words u.num.natAbs).length) ac1, .slice a2 ((words u.den).length) ac2, .bool (rb v.num), .slice a3 ((words v.num.natAbs).length) ac3, .slice a4 ((words v.den).length) ac4]), (10, .bool true), (11, .bool false), (13, .int .i64 n), (14, .bool false), (15, .bool false), (16, .int .i64 n), (17, .bool false), (18, .bool false), (20, .int .i64 n), (21, .bool false), (28, .bool false), (30, .int .i64 n), (31, .int .i64 n), (35, .agg #[.bool (rb (1 : Rat).num), .slice p29_1 ((words (1 : Rat).num.natAbs).length) p29_c1, .slice p29_2 ((words (1 : Rat).den).length) p29_c2, .bool (rb (0 : Rat).num), .slice p29_3 ((words (0 : Rat).num.natAbs).length) p29_c3, .slice p29_4 ((words (0 : Rat).den).length) p29_c4])] ∧ St w w1 [(g33, [.bool (rb A.num), .slice po1 ((words A.num.natAbs).length) poc1, .slice po2 ((words A.den).length) poc2, .bool (rb B.num), .slice po3 ((words B.num.natAbs).length) poc3, .slice po4 ((words B.den).length) poc4]), (g4, [.bool false, .slice none 0 0, .slice none 0 0, .bool false, .slice none 0 0, .slice none 0 0]), (g2, [.bool (rb u.num), .slice a1 ((words u.num.natAbs).length) ac1, .slice a2 ((words u.den).length) ac2, .bool (rb v.num), .slice a3 ((words v.num.natAbs).length) ac3, .slice a4 ((words v.den).length) ac4])] [(po1, words A.num.natAbs), (po2, words A.den), (po3, words B.num.natAbs), (po4, words B.den), (p29_4, words (0 : Rat).den), (p29_3, words (0 : Rat).num.natAbs), (p29_2, words (1 : Rat).den), (p29_1, words (1 : Rat).num.natAbs), (a4, words v.den), (a3, words v.num.natAbs), (a2, words u.den), (a1, words u.num.natAbs)] []) _ ⟨0, 1, 0, p29_1, p29_c1, p29_2, p29_c2, p29_3, p29_c3, p29_4, p29_c4, rfl, ⟨by omega, rfl, rfl, len_one, len_zero, ⟨hn30.s1.nil, hn30.s1.cap⟩, ⟨hn30.s2.nil, hn30.s2.cap⟩, ⟨hn30.s3.nil, hn30.s3.cap⟩, ⟨hn30.s4.nil, hn30.s4.cap⟩⟩, hA.keep _ ⟨rfl, rfl, rfl, rfl, rfl, rfl, rfl, rfl, rfl, rfl, rfl, rfl, rfl, rfl, rfl, rfl, rfl, rfl, rfl, rfl, rfl, rfl, trivial⟩, ((hS.pickR [(p29_1, words (1 : Rat).num.natAbs), (p29_2, words (1 : Rat).den), (p29_3, words (0 : Rat).num.natAbs), (p29_4, words (0 : Rat).den), (p29_4, words (0 : Rat).den), (p29_3, words (0 : Rat).num.natAbs), (p29_2, words (1 : Rat).den), (p29_1, words (1 : Rat).num.natAbs), (a4, words v.den), (a3, words v.num.natAbs), (a2, words u.den), (a1, words u.num.natAbs)] ⟨⟨3, rfl⟩, ⟨⟨2, rfl⟩, ⟨⟨1, rfl⟩, ⟨⟨0, rfl⟩, ⟨⟨0, rfl⟩, ⟨⟨1, rfl⟩, ⟨⟨2, rfl⟩, ⟨⟨3, rfl⟩, ⟨⟨4, rfl⟩, ⟨⟨5, rfl⟩, ⟨⟨6, rfl⟩, ⟨⟨7, rfl⟩, trivial⟩⟩⟩⟩⟩⟩⟩⟩⟩⟩⟩⟩).subL _ (.refl _))⟩ ?_
     clear hS hA
     rintro m a w38 ⟨i, A, B, po1, poc1, po2, poc2, po3, poc3, po4, poc4, rfl, hinv40, hA, hS⟩ K39 hK39
     obtain ⟨hi9, hp9, hB9, LA, LB, kn1, kn2, kn3, kn4⟩ := hinv40
     have LA9 : LenR 9000 (A * u - B * v) := (lenR_subA (lenR_mul LA LU) (lenR_mul LB LV)).mono (by decide)
     have LB9 : LenR 9000 (A * v + B * u) := (lenR_add (lenR_mul LA LV) (lenR_mul LB LU)).mono (by decide)
     have hs9 : pwR u v (i + 1) = (A * u - B * v, A * v + B * u) := by
       show ((pwR u v i).1 * u - (pwR u v i).2 * v, (pwR u v i).1 * v + (pwR u v i).2 * u) = _
       rw [hp9]
     refine wp_seq_k (fun K41 hK41 => ?_)
     refine wp_seq_k (fun K42 hK42 => ?_)
     refine wp_region_lit ?_
     refine seq_do hA rfl rfl rfl (d_move rfl) ?_
     intro a hA
     refine seq_do hA rfl rfl rfl (d_move rfl) ?_
     intro a hA
     rcases Bool.eq_false_or_eq_true (decide (((i : Nat) : Int) < ((N : Nat) : Int))) with hb43 | hb43
     · have hb43' := of_decide_eq_true hb43
       refine seq_do (v := .bool true) hA rfl rfl rfl (d_bin rfl rfl (fun w => (bin_lss w).trans (by rw [hb43]))) ?_
       intro a hA
       refine seq_end ?_
       refine hK42 _ _ ?_
       refine wp_cond_true (hA.ev rfl) ?_
       refine wp_skip ?_
       refine hK41 _ _ ?_
       refine wp_seq_k (fun K44 hK44 => ?_)
       refine wp_block ?_
       refine wp_seq_k (fun K45 hK45 => ?_)
       refine wp_seq_k (fun K46 hK46 => ?_)
       refine wp_region_lit ?_
       refine seq_do hA rfl rfl rfl (d_loadS hS SmI_isS_26 rfl 2 rfl (cs := [.bool (rb u.num), .slice a1 ((words u.num.natAbs).length) ac1, .slice a2 ((words u.den).length) ac2, .bool (rb v.num), .slice a3 ((words v.num.natAbs).length) ac3, .slice a4 ((words v.den).length) ac4]) rfl rfl) ?_
       intro a hA
       refine seq_call hA rfl rfl rfl (enters_func  rfl rfl (fun w => by kernel_rfl)) (rrealQ_any (show Nm _ (Q6.rat u v) a1 ac1 a2 ac2 a3 ac3 a4 ac4 from ⟨⟨(hS.rd 11 rfl), ha.s1.nil, ha.s1.cap⟩, ⟨(hS.rd 10 rfl), ha.s2.nil, ha.s2.cap⟩, ⟨(hS.rd 9 rfl), ha.s3.nil, ha.s3.cap⟩, ⟨(hS.rd 8 rfl), ha.s4.nil, ha.s4.cap⟩⟩) (lenQ_rat hu hv) k2) ?_
       rintro _ w48 ⟨rfl, hb47⟩
       replace hS := hS.call hb47
       refine ⟨_, rfl, ?_⟩
       intro a hA
       refine seq_end ?_
       refine hK46 _ _ ?_
       refine wp_cond_false (hA.ev rfl) ?_
       refine wp_region_lit ?_
       refine seq_do hA rfl rfl rfl (d_loadS hS SmI_isS_26 rfl 0 rfl (cs := [.bool (rb A.num), .slice po1 ((words A.num.natAbs).length) poc1, .slice po2 ((words A.den).length) poc2, .bool (rb B.num), .slice po3 ((words B.num.natAbs).length) poc3, .slice po4 ((words B.den).length) poc4]) rfl rfl) ?_
       intro a hA
       refine seq_do hA rfl rfl rfl (d_loadS hS SmI_isS_26 rfl 2 rfl (cs := [.bool (rb u.num), .slice a1 ((words u.num.natAbs).length) ac1, .slice a2 ((words u.den).length) ac2, .bool (rb v.num), .slice a3 ((words v.num.natAbs).length) ac3, .slice a4 ((words v.den).length) ac4]) rfl rfl) ?_
       intro a hA
       refine seq_call hA rfl rfl rfl (enters_func  rfl rfl (fun w => by kernel_rfl)) (rtimesQ_any (show Nm _ (Q6.rat A B) po1 poc1 po2 poc2 po3 poc3 po4 poc4 from ⟨⟨(hS.rd 0 rfl), kn1.1, kn1.2⟩, ⟨(hS.rd 1 rfl), kn2.1, kn2.2⟩, ⟨(hS.rd 2 rfl), kn3.1, kn3.2⟩, ⟨(hS.rd 3 rfl), kn4.1, kn4.2⟩⟩) (show Nm _ (Q6.rat u v) a1 ac1 a2 ac2 a3 ac3 a4 ac4 from ⟨⟨(hS.rd 11 rfl), ha.s1.nil, ha.s1.cap⟩, ⟨(hS.rd 10 rfl), ha.s2.nil, ha.s2.cap⟩, ⟨(hS.rd 9 rfl), ha.s3.nil, ha.s3.cap⟩, ⟨(hS.rd 8 rfl), ha.s4.nil, ha.s4.cap⟩⟩) LA LB (LU.mono (by decide)) (LV.mono (by decide))) ?_
       rintro _ w52 ⟨p49_1, p49_c1, p49_2, p49_c2, p49_3, p49_c3, p49_4, p49_c4, rfl, hn50, hb51⟩
       replace hS := hS.call hb51
       replace hS := hS.addR hn50.s1.rd
       replace hS := hS.addR hn50.s2.rd
       replace hS := hS.addR hn50.s3.rd
       replace hS := hS.addR hn50.s4.rd
       refine ⟨_, rfl, ?_⟩
       intro a hA
       refine seq_store (us := [.bool (rb (A * u - B * v).num), .slice p49_1 ((words (A * u - B * v).num.natAbs).length) p49_c1, .slice p49_2 ((words (A * u - B * v).den).length) p49_c2, .bool (rb (A * v + B * u).num), .slice p49_3 ((words (A * v + B * u).num.natAbs).length) p49_c3, .slice p49_4 ((words (A * v + B * u).den).length) p49_c4]) hA hS rfl rfl (sets_store rfl rfl rfl (by kernel_rfl) hS 0 rfl rfl rfl) 0 rfl rfl rfl rfl ?_
       intro w53 hS
       refine seq_end ?_
       refine hK45 _ _ ?_
       refine wp_seq_k (fun K54 hK54 => ?_)
       refine wp_region_lit ?_
       refine seq_do hA rfl rfl rfl (d_loadS hS SmI_isS_26 rfl 0 rfl (cs := [.bool (rb (A * u - B * v).num), .slice p49_1 ((words (A * u - B * v).num.natAbs).length) p49_c1, .slice p49_2 ((words (A * u - B * v).den).length) p49_c2, .bool (rb (A * v + B * u).num), .slice p49_3 ((words (A * v + B * u).num.natAbs).length) p49_c3, .slice p49_4 ((words (A * v + B * u).den).length) p49_c4]) rfl rfl) ?_
       intro a hA
       rcases Bool.eq_false_or_eq_true (decide (¬ (fitR (A * u - B * v) ∧ fitR (A * v + B * u)))) with hb55 | hb55
       · have hb55' := of_decide_eq_true hb55
         refine seq_call hA rfl rfl rfl (enters_func  rfl rfl (fun w => by kernel_rfl)) (rlarge_any (show Nm _ (Q6.rat (A * u - B * v) (A * v + B * u)) p49_1 p49_c1 p49_2 p49_c2 p49_3 p49_c3 p49_4 p49_c4 from ⟨⟨(hS.rd 3 rfl), hn50.s1.nil, hn50.s1.cap⟩, ⟨(hS.rd 2 rfl), hn50.s2.nil, hn50.s2.cap⟩, ⟨(hS.rd 1 rfl), hn50.s3.nil, hn50.s3.cap⟩, ⟨(hS.rd 0 rfl), hn50.s4.nil, hn50.s4.cap⟩⟩) LA9 LB9 hb55) ?_
         rintro _ w57 ⟨rfl, hb56⟩
         replace hS := hS.call hb56
         refine ⟨_, rfl, ?_⟩
         intro a hA
         refine seq_end ?_
         refine hK54 _ _ ?_
         refine wp_cond_true (hA.ev rfl) ?_
         refine wp_seq_k (fun K58 hK58 => ?_)
         refine wp_region_lit ?_
         refine seq_do (v := .agg #[.bool false, .slice none 0 0, .slice none 0 0, .bool false, .slice none 0 0, .slice none 0 0]) hA rfl rfl rfl (d_build rfl (fun w => by kernel_rfl)) ?_
         intro a hA
         refine seq_store (us := [.bool false, .slice none 0 0, .slice none 0 0, .bool false, .slice none 0 0, .slice none 0 0]) hA hS rfl rfl (sets_store rfl rfl rfl (by kernel_rfl) hS 1 rfl rfl rfl) 1 rfl rfl rfl rfl ?_
         intro w59 hS
         refine seq_do hA rfl rfl rfl (d_assign rfl) ?_
         intro a hA
         refine seq_end ?_
         refine hK58 _ _ ?_
         refine wp_ret ?_
         refine hret _ _ ?_
         refine ends (v := .tuple #[.agg #[.bool false, .slice none 0 0, .slice none 0 0, .bool false, .slice none 0 0, .slice none 0 0], .int .i64 4]) hA rfl (.cons (res_cell hS SmI_isS_26 rfl 1 rfl (cs := [.bool false, .slice none 0 0, .slice none 0 0, .bool false, .slice none 0 0, .slice none 0 0]) rfl rfl) (.cons (res_tmp rfl) .nil)) rfl ?_
         rw [ex_stop hu hv hN h1 h2 hz (pwB_stop (k := i + 1) (by omega) (by have h7 := of_decide_eq_true hb55; rw [hs9]; exact h7))]
         exact ⟨none, 0, none, 0, none, 0, none, 0, rfl, ⟨(Sc.none _), (Sc.none _), (Sc.none _), (Sc.none _)⟩, hS.bel⟩
       · have hb55' := of_decide_eq_false hb55
         refine seq_call hA rfl rfl rfl (enters_func  rfl rfl (fun w => by kernel_rfl)) (rlarge_any (show Nm _ (Q6.rat (A * u - B * v) (A * v + B * u)) p49_1 p49_c1 p49_2 p49_c2 p49_3 p49_c3 p49_4 p49_c4 from ⟨⟨(hS.rd 3 rfl), hn50.s1.nil, hn50.s1.cap⟩, ⟨(hS.rd 2 rfl), hn50.s2.nil, hn50.s2.cap⟩, ⟨(hS.rd 1 rfl), hn50.s3.nil, hn50.s3.cap⟩, ⟨(hS.rd 0 rfl), hn50.s4.nil, hn50.s4.cap⟩⟩) LA9 LB9 hb55) ?_
         rintro _ w61 ⟨rfl, hb60⟩
         replace hS := hS.call hb60
         refine ⟨_, rfl, ?_⟩
         intro a hA
         refine seq_end ?_
         refine hK54 _ _ ?_
         refine wp_cond_false (hA.ev rfl) ?_
         refine wp_skip ?_
         refine hK44 _ _ ?_
         refine wp_region_lit ?_
         refine seq_do hA rfl rfl rfl (d_move rfl) ?_
         intro a hA
         refine seq_do (v := .int .i64 (((i + 1 : Nat) : Int))) hA rfl rfl rfl (d_bin rfl rfl (fun w => (bin_add (i64In (by omega) (by omega)) w).trans (by rw [show (((i : Nat) : Int) + 1 : Int) = ((i + 1 : Nat) : Int) from by omega]))) ?_
         intro a hA
         refine seq_do hA rfl rfl rfl (d_assign rfl) ?_
         intro a hA
         refine seq_end ?_
         refine hK39 _ _ _ (by omega) ⟨i + 1, (A * u - B * v), (A * v + B * u), p49_1, p49_c1, p49_2, p49_c2, p49_3, p49_c3, p49_4, p49_c4, rfl, ⟨by omega, hs9, pwB_step hB9 (by rw [hs9]; exact (Decidable.not_not.1 (of_decide_eq_false hb55)).1) (by rw [hs9]; exact (Decidable.not_not.1 (of_decide_eq_false hb55)).2), fit_lenR (Decidable.not_not.1 (of_decide_eq_false hb55)).1, fit_lenR (Decidable.not_not.1 (of_decide_eq_false hb55)).2, ⟨hn50.s1.nil, hn50.s1.cap⟩, ⟨hn50.s2.nil, hn50.s2.cap⟩, ⟨hn50.s3.nil, hn50.s3.cap⟩, ⟨hn50.s4.nil, hn50.s4.cap⟩⟩, hA.keep _ ⟨rfl, rfl, rfl, rfl, rfl, rfl, rfl, rfl, rfl, rfl, rfl, rfl, rfl, rfl, rfl, rfl, rfl, rfl, rfl, rfl, rfl, rfl, trivial⟩, ((hS.pickR [(p49_1, words (A * u - B * v).num.natAbs), (p49_2, words (A * u - B * v).den), (p49_3, words (A * v + B * u).num.natAbs), (p49_4, words (A * v + B * u).den), (p29_4, words (0 : Rat).den), (p29_3, words (0 : Rat).num.natAbs), (p29_2, words (1 : Rat).den), (p29_1, words (1 : Rat).num.natAbs), (a4, words v.den), (a3, words v.num.natAbs), (a2, words u.den), (a1, words u.num.natAbs)] ⟨⟨3, rfl⟩, ⟨⟨2, rfl⟩, ⟨⟨1, rfl⟩, ⟨⟨0, rfl⟩, ⟨⟨8, rfl⟩, ⟨⟨9, rfl⟩, ⟨⟨10, rfl⟩, ⟨⟨11, rfl⟩, ⟨⟨12, rfl⟩, ⟨⟨13, rfl⟩, ⟨⟨14, rfl⟩, ⟨⟨15, rfl⟩, trivial⟩⟩⟩⟩⟩⟩⟩⟩⟩⟩⟩⟩).subL _ (.refl _))⟩
     · have hb43' := of_decide_eq_false hb43
       refine seq_do (v := .bool false) hA rfl rfl rfl (d_bin rfl rfl (fun w => (bin_lss w).trans (by rw [hb43]))) ?_
       intro a hA
       refine seq_end ?_
       refine hK42 _ _ ?_
       refine wp_cond_false (hA.ev rfl) ?_
       refine wp_exit ?_
       refine hK36 _ _ ?_
       refine wp_seq_k (fun K62 hK62 => ?_)
       refine wp_seq_k (fun K63 hK63 => ?_)
       refine wp_region_lit ?_
       refine seq_do hA rfl rfl rfl (d_move rfl) ?_
       intro a hA
       refine seq_do (v := .bool (decide (n < 0))) hA rfl rfl rfl (d_bin rfl rfl bin_lss) ?_
       intro a hA
       refine seq_end ?_
       refine hK63 _ _ ?_
       refine wp_cond_split (t := decide (n < 0)) (hA.ev rfl) (fun hc64 => ?_) (fun hc64 => ?_)
       · have hc64' := of_decide_eq_true hc64
         refine wp_region_lit ?_
         refine seq_do hA rfl rfl rfl (d_loadS hS SmI_isS_26 rfl 0 rfl (cs := [.bool (rb A.num), .slice po1 ((words A.num.natAbs).length) poc1, .slice po2 ((words A.den).length) poc2, .bool (rb B.num), .slice po3 ((words B.num.natAbs).length) poc3, .slice po4 ((words B.den).length) poc4]) rfl rfl) ?_
         intro a hA
         refine seq_call hA rfl rfl rfl (enters_func  rfl rfl (fun w => by kernel_rfl)) (rinvc_any (show Nm _ (Q6.rat A B) po1 poc1 po2 poc2 po3 poc3 po4 poc4 from ⟨⟨(hS.rd 0 rfl), kn1.1, kn1.2⟩, ⟨(hS.rd 1 rfl), kn2.1, kn2.2⟩, ⟨(hS.rd 2 rfl), kn3.1, kn3.2⟩, ⟨(hS.rd 3 rfl), kn4.1, kn4.2⟩⟩) LA LB (fun c => (pwR_ne (hz (by omega)) i) (by rw [hp9]; exact c)) (iv_fstc (by omega) hp9 j0) (iv_sndc (by omega) hp9 j0)) ?_
         rintro _ w68 ⟨p65_1, p65_c1, p65_2, p65_c2, p65_3, p65_c3, p65_4, p65_c4, rfl, hn66, hb67⟩
         replace hS := hS.call hb67
         replace hS := hS.addR hn66.s1.rd
         replace hS := hS.addR hn66.s2.rd
         replace hS := hS.addR hn66.s3.rd
         replace hS := hS.addR hn66.s4.rd
         refine ⟨_, rfl, ?_⟩
         intro a hA
         refine seq_store (us := [.bool (rb i1.num), .slice p65_1 ((words i1.num.natAbs).length) p65_c1, .slice p65_2 ((words i1.den).length) p65_c2, .bool (rb i2.num), .slice p65_3 ((words i2.num.natAbs).length) p65_c3, .slice p65_4 ((words i2.den).length) p65_c4]) hA hS rfl rfl (sets_store rfl rfl rfl (by kernel_rfl) hS 0 rfl rfl rfl) 0 rfl rfl rfl rfl ?_
         intro w69 hS
         refine seq_end ?_
         refine hK62 _ _ ?_
         refine wp_seq_k (fun K70 hK70 => ?_)
         refine wp_region_lit ?_
         refine seq_do hA rfl rfl rfl (d_loadS hS SmI_isS_26 rfl 0 rfl (cs := [.bool (rb i1.num), .slice p65_1 ((words i1.num.natAbs).length) p65_c1, .slice p65_2 ((words i1.den).length) p65_c2, .bool (rb i2.num), .slice p65_3 ((words i2.num.natAbs).length) p65_c3, .slice p65_4 ((words i2.den).length) p65_c4]) rfl rfl) ?_
         intro a hA
         refine seq_call hA rfl rfl rfl (enters_func  rfl rfl (fun w => by kernel_rfl)) (rfit_any (show Nm _ (Q6.rat i1 i2) p65_1 p65_c1 p65_2 p65_c2 p65_3 p65_c3 p65_4 p65_c4 from ⟨⟨(hS.rd 3 rfl), hn66.s1.nil, hn66.s1.cap⟩, ⟨(hS.rd 2 rfl), hn66.s2.nil, hn66.s2.cap⟩, ⟨(hS.rd 1 rfl), hn66.s3.nil, hn66.s3.cap⟩, ⟨(hS.rd 0 rfl), hn66.s4.nil, hn66.s4.cap⟩⟩) (LI (by omega) ((show i = N by omega) ▸ hB9)).1 (LI (by omega) ((show i = N by omega) ▸ hB9)).2) ?_
         rintro _ w74 ⟨p71_1, p71_c1, p71_2, p71_c2, p71_3, p71_c3, p71_4, p71_c4, rfl, hn72, hb73⟩
         replace hS := hS.call hb73
         replace hS := hS.addR hn72.s1.rd
         replace hS := hS.addR hn72.s2.rd
         replace hS := hS.addR hn72.s3.rd
         replace hS := hS.addR hn72.s4.rd
         refine ⟨_, rfl, ?_⟩
         intro a hA
         refine seq_do (v := .agg #[.bool ((ratS i1 i2).1.b1), .slice p71_1 (((ratS i1 i2).1.t1).length) p71_c1, .slice p71_2 (((ratS i1 i2).1.q1).length) p71_c2, .bool ((ratS i1 i2).1.b2), .slice p71_3 (((ratS i1 i2).1.t2).length) p71_c3, .slice p71_4 (((ratS i1 i2).1.q2).length) p71_c4]) hA rfl rfl rfl (d_extract (vs := [.agg #[.bool ((ratS i1 i2).1.b1), .slice p71_1 (((ratS i1 i2).1.t1).length) p71_c1, .slice p71_2 (((ratS i1 i2).1.q1).length) p71_c2, .bool ((ratS i1 i2).1.b2), .slice p71_3 (((ratS i1 i2).1.t2).length) p71_c3, .slice p71_4 (((ratS i1 i2).1.q2).length) p71_c4], .int .i64 ((ratS i1 i2).2)]) rfl rfl) ?_
         intro a hA
         refine seq_do (v := .int .i64 ((ratS i1 i2).2)) hA rfl rfl rfl (d_extract (vs := [.agg #[.bool ((ratS i1 i2).1.b1), .slice p71_1 (((ratS i1 i2).1.t1).length) p71_c1, .slice p71_2 (((ratS i1 i2).1.q1).length) p71_c2, .bool ((ratS i1 i2).1.b2), .slice p71_3 (((ratS i1 i2).1.t2).length) p71_c3, .slice p71_4 (((ratS i1 i2).1.q2).length) p71_c4], .int .i64 ((ratS i1 i2).2)]) rfl rfl) ?_
         intro a hA
         refine seq_store (us := [.bool ((ratS i1 i2).1.b1), .slice p71_1 (((ratS i1 i2).1.t1).length) p71_c1, .slice p71_2 (((ratS i1 i2).1.q1).length) p71_c2, .bool ((ratS i1 i2).1.b2), .slice p71_3 (((ratS i1 i2).1.t2).length) p71_c3, .slice p71_4 (((ratS i1 i2).1.q2).length) p71_c4]) hA hS rfl rfl (sets_store rfl rfl rfl (by kernel_rfl) hS 1 rfl rfl rfl) 1 rfl rfl rfl rfl ?_
         intro w75 hS
         refine seq_do hA rfl rfl rfl (d_assign rfl) ?_
         intro a hA
         refine seq_end ?_
         refine hK70 _ _ ?_
         refine wp_ret ?_
         refine hret _ _ ?_
         refine ends (v := .tuple #[.agg #[.bool ((ratS i1 i2).1.b1), .slice p71_1 (((ratS i1 i2).1.t1).length) p71_c1, .slice p71_2 (((ratS i1 i2).1.q1).length) p71_c2, .bool ((ratS i1 i2).1.b2), .slice p71_3 (((ratS i1 i2).1.t2).length) p71_c3, .slice p71_4 (((ratS i1 i2).1.q2).length) p71_c4], .int .i64 ((ratS i1 i2).2)]) hA rfl (.cons (res_cell hS SmI_isS_26 rfl 1 rfl (cs := [.bool ((ratS i1 i2).1.b1), .slice p71_1 (((ratS i1 i2).1.t1).length) p71_c1, .slice p71_2 (((ratS i1 i2).1.q1).length) p71_c2, .bool ((ratS i1 i2).1.b2), .slice p71_3 (((ratS i1 i2).1.t2).length) p71_c3, .slice p71_4 (((ratS i1 i2).1.q2).length) p71_c4]) rfl rfl) (.cons (res_tmp rfl) .nil)) rfl ?_
         obtain rfl : i = N := by omega
         rw [ex_neg hu hv hN h1 h2 (by omega) (hz (by omega)), if_pos hB9, j0]
         show AnsN w (ratS i1 i2) _ _
         exact ⟨p71_1, p71_c1, p71_2, p71_c2, p71_3, p71_c3, p71_4, p71_c4, rfl, ⟨⟨(hS.rd 3 rfl), hn72.s1.nil, hn72.s1.cap⟩, ⟨(hS.rd 2 rfl), hn72.s2.nil, hn72.s2.cap⟩, ⟨(hS.rd 1 rfl), hn72.s3.nil, hn72.s3.cap⟩, ⟨(hS.rd 0 rfl), hn72.s4.nil, hn72.s4.cap⟩⟩, hS.bel⟩
       · have hc64' := of_decide_eq_false hc64
         refine wp_skip ?_
         refine hK62 _ _ ?_
         refine wp_seq_k (fun K76 hK76 => ?_)
         refine wp_region_lit ?_
         refine seq_do hA rfl rfl rfl (d_loadS hS SmI_isS_26 rfl 0 rfl (cs := [.bool (rb A.num), .slice po1 ((words A.num.natAbs).length) poc1, .slice po2 ((words A.den).length) poc2, .bool (rb B.num), .slice po3 ((words B.num.natAbs).length) poc3, .slice po4 ((words B.den).length) poc4]) rfl rfl) ?_
         intro a hA
         refine seq_call hA rfl rfl rfl (enters_func  rfl rfl (fun w => by kernel_rfl)) (rfit_any (show Nm _ (Q6.rat A B) po1 poc1 po2 poc2 po3 poc3 po4 poc4 from ⟨⟨(hS.rd 0 rfl), kn1.1, kn1.2⟩, ⟨(hS.rd 1 rfl), kn2.1, kn2.2⟩, ⟨(hS.rd 2 rfl), kn3.1, kn3.2⟩, ⟨(hS.rd 3 rfl), kn4.1, kn4.2⟩⟩) (LA.mono (by decide)) (LB.mono (by decide))) ?_
         rintro _ w80 ⟨p77_1, p77_c1, p77_2, p77_c2, p77_3, p77_c3, p77_4, p77_c4, rfl, hn78, hb79⟩
         replace hS := hS.call hb79
         replace hS := hS.addR hn78.s1.rd
         replace hS := hS.addR hn78.s2.rd
         replace hS := hS.addR hn78.s3.rd
         replace hS := hS.addR hn78.s4.rd
         refine ⟨_, rfl, ?_⟩
         intro a hA
         refine seq_do (v := .agg #[.bool ((ratS A B).1.b1), .slice p77_1 (((ratS A B).1.t1).length) p77_c1, .slice p77_2 (((ratS A B).1.q1).length) p77_c2, .bool ((ratS A B).1.b2), .slice p77_3 (((ratS A B).1.t2).length) p77_c3, .slice p77_4 (((ratS A B).1.q2).length) p77_c4]) hA rfl rfl rfl (d_extract (vs := [.agg #[.bool ((ratS A B).1.b1), .slice p77_1 (((ratS A B).1.t1).length) p77_c1, .slice p77_2 (((ratS A B).1.q1).length) p77_c2, .bool ((ratS A B).1.b2), .slice p77_3 (((ratS A B).1.t2).length) p77_c3, .slice p77_4 (((ratS A B).1.q2).length) p77_c4], .int .i64 ((ratS A B).2)]) rfl rfl) ?_
         intro a hA
         refine seq_do (v := .int .i64 ((ratS A B).2)) hA rfl rfl rfl (d_extract (vs := [.agg #[.bool ((ratS A B).1.b1), .slice p77_1 (((ratS A B).1.t1).length) p77_c1, .slice p77_2 (((ratS A B).1.q1).length) p77_c2, .bool ((ratS A B).1.b2), .slice p77_3 (((ratS A B).1.t2).length) p77_c3, .slice p77_4 (((ratS A B).1.q2).length) p77_c4], .int .i64 ((ratS A B).2)]) rfl rfl) ?_
         intro a hA
         refine seq_store (us := [.bool ((ratS A B).1.b1), .slice p77_1 (((ratS A B).1.t1).length) p77_c1, .slice p77_2 (((ratS A B).1.q1).length) p77_c2, .bool ((ratS A B).1.b2), .slice p77_3 (((ratS A B).1.t2).length) p77_c3, .slice p77_4 (((ratS A B).1.q2).length) p77_c4]) hA hS rfl rfl (sets_store rfl rfl rfl (by kernel_rfl) hS 1 rfl rfl rfl) 1 rfl rfl rfl rfl ?_
         intro w81 hS
         refine seq_do hA rfl rfl rfl (d_assign rfl) ?_
         intro a hA
         refine seq_end ?_
         refine hK76 _ _ ?_
         refine wp_ret ?_
         refine hret _ _ ?_
         refine ends (v := .tuple #[.agg #[.bool ((ratS A B).1.b1), .slice p77_1 (((ratS A B).1.t1).length) p77_c1, .slice p77_2 (((ratS A B).1.q1).length) p77_c2, .bool ((ratS A B).1.b2), .slice p77_3 (((ratS A B).1.t2).length) p77_c3, .slice p77_4 (((ratS A B).1.q2).length) p77_c4], .int .i64 ((ratS A B).2)]) hA rfl (.cons (res_cell hS SmI_isS_26 rfl 1 rfl (cs := [.bool ((ratS A B).1.b1), .slice p77_1 (((ratS A B).1.t1).length) p77_c1, .slice p77_2 (((ratS A B).1.q1).length) p77_c2, .bool ((ratS A B).1.b2), .slice p77_3 (((ratS A B).1.t2).length) p77_c3, .slice p77_4 (((ratS A B).1.q2).length) p77_c4]) rfl rfl) (.cons (res_tmp rfl) .nil)) rfl ?_
         obtain rfl : i = N := by omega
         rw [ex_pos hu hv hN h1 h2 (by omega), if_pos hB9, hp9]
         show AnsN w (ratS _ _) _ _
         exact ⟨p77_1, p77_c1, p77_2, p77_c2, p77_3, p77_c3, p77_4, p77_c4, rfl, ⟨⟨(hS.rd 3 rfl), hn78.s1.nil, hn78.s1.cap⟩, ⟨(hS.rd 2 rfl), hn78.s2.nil, hn78.s2.cap⟩, ⟨(hS.rd 1 rfl), hn78.s3.nil, hn78.s3.cap⟩, ⟨(hS.rd 0 rfl), hn78.s4.nil, hn78.s4.cap⟩⟩, hS.bel⟩
   refine wp_cond_split (t := decide (n < 0)) (hA.ev rfl) (fun hc82 => ?_) (fun hc82 => ?_)
   · have hc82' := of_decide_eq_true hc82
     refine wp_region_lit ?_
     refine seq_do hA rfl rfl rfl (d_move rfl) ?_
     intro a hA
     refine seq_do (v := .int .i64 (((N : Nat) : Int))) hA rfl rfl rfl (d_un rfl (ar_neg (show IntKind.i64.wrap (-n) = ((N : Nat) : Int) from (in_i64 (by omega) (by omega)).trans (by omega)))) ?_
     intro a hA
     refine seq_do hA rfl rfl rfl (d_assign rfl) ?_
     intro a hA
     refine seq_end ?_
     exact hJ26 _ _ ⟨hA.keep _ ⟨rfl, rfl, rfl, rfl, rfl, rfl, rfl, rfl, rfl, rfl, rfl, rfl, rfl, rfl, rfl, rfl, rfl, rfl, rfl, rfl, trivial⟩, hS⟩
   · have hc82' := of_decide_eq_false hc82
     refine wp_skip ?_
     exact hJ26 _ _ ⟨hA.keep _ ⟨rfl, rfl, rfl, rfl, rfl, (congrArg (fun z => some (Value.int .i64 z)) (show n = ((N : Nat) : Int) by omega)), rfl, rfl, rfl, rfl, rfl, rfl, rfl, rfl, rfl, rfl, rfl, rfl, rfl, rfl, trivial⟩, hS⟩
 refine wp_region_lit ?_
 refine seq_do hA rfl rfl rfl (d_loadS hS SmI_isS_26 rfl 1 rfl (cs := [.bool (rb u.num), .slice a1 ((words u.num.natAbs).length) ac1, .slice a2 ((words u.den).length) ac2, .bool (rb v.num), .slice a3 ((words v.num.natAbs).length) ac3, .slice a4 ((words v.den).length) ac4]) rfl rfl) ?_
 intro a hA
 rcases Bool.eq_false_or_eq_true (decide (u = 0 ∧ v = 0)) with hb83 | hb83
 · have hb83' := of_decide_eq_true hb83
   refine seq_call hA rfl rfl rfl (enters_func  rfl rfl (fun w => by kernel_rfl)) (risZero_any (show Nm _ (Q6.rat u v) a1 ac1 a2 ac2 a3 ac3 a4 ac4 from ⟨⟨(hS.rd 3 rfl), ha.s1.nil, ha.s1.cap⟩, ⟨(hS.rd 2 rfl), ha.s2.nil, ha.s2.cap⟩, ⟨(hS.rd 1 rfl), ha.s3.nil, ha.s3.cap⟩, ⟨(hS.rd 0 rfl), ha.s4.nil, ha.s4.cap⟩⟩) hu hv hb83) ?_
   rintro _ w85 ⟨rfl, hb84⟩
   replace hS := hS.call hb84
   refine ⟨_, rfl, ?_⟩
   intro a hA
   refine seq_do hA rfl rfl rfl (d_move rfl) ?_
   intro a hA
   refine seq_do hA rfl rfl rfl (d_move rfl) ?_
   intro a hA
   refine seq_do (v := .bool false) hA rfl rfl rfl (d_bin rfl rfl (fun w => (bin_lss w).trans (by rw [show (decide (n < 0)) = false from (decide_eq_false (fun c => hz c (of_decide_eq_true hb83)))]))) ?_
   intro a hA
   refine seq_do (v := .bool false) hA rfl rfl rfl (d_pick rfl rfl rfl rfl) ?_
   intro a hA
   refine seq_end ?_
   exact hJ21 _ _ ⟨hA.keep _ ⟨rfl, rfl, rfl, rfl, rfl, rfl, rfl, rfl, rfl, rfl, rfl, rfl, rfl, rfl, rfl, rfl, rfl, trivial⟩, hS⟩
 · have hb83' := of_decide_eq_false hb83
   refine seq_call hA rfl rfl rfl (enters_func  rfl rfl (fun w => by kernel_rfl)) (risZero_any (show Nm _ (Q6.rat u v) a1 ac1 a2 ac2 a3 ac3 a4 ac4 from ⟨⟨(hS.rd 3 rfl), ha.s1.nil, ha.s1.cap⟩, ⟨(hS.rd 2 rfl), ha.s2.nil, ha.s2.cap⟩, ⟨(hS.rd 1 rfl), ha.s3.nil, ha.s3.cap⟩, ⟨(hS.rd 0 rfl), ha.s4.nil, ha.s4.cap⟩⟩) hu hv hb83) ?_
   rintro _ w87 ⟨rfl, hb86⟩
   replace hS := hS.call hb86
   refine ⟨_, rfl, ?_⟩
   intro a hA
   refine seq_do hA rfl rfl rfl (d_move rfl) ?_
   intro a hA
   refine seq_skip hA rfl rfl rfl ?_
   intro a hA
   refine seq_skip hA rfl rfl rfl ?_
   intro a hA
   refine seq_do (v := .bool false) hA rfl rfl rfl (d_pick rfl rfl rfl rfl) ?_
   intro a hA
   refine seq_end ?_
   exact hJ21 _ _ ⟨hA.keep _ ⟨rfl, rfl, rfl, rfl, rfl, rfl, rfl, rfl, rfl, rfl, rfl, rfl, rfl, rfl, rfl, rfl, rfl, trivial⟩, hS⟩
theorem rexA1_any {w : World} {u v : Rat} {a1 a2 a3 a4 : Option Addr} {ac1 ac2 ac3 ac4 : Nat} (ha : Nm w (Q6.rat u v) a1 ac1 a2 ac2 a3 ac3 a4 ac4) (hu : fitR u) (hv : fitR v) {n : Int} (hn : n < -1024) : Calls Tryz.prog 31 #[numV (Q6.rat u v) a1 ac1 a2 ac2 a3 ac3 a4 ac4, .int .i64 n] w (AnsN w (exptQ (Q6.rat u v) n)) := by
 have hS : St w w [] [(a4, words v.den), (a3, words v.num.natAbs), (a2, words u.den), (a1, words u.num.natAbs)] [] := ((((St.start w).addR ha.s1.rd).addR ha.s2.rd).addR ha.s3.rd).addR ha.s4.rd
 refine walk_of (l := [(0, .agg #[.bool (rb u.num), .slice a1 ((words u.num.natAbs).length) ac1, .slice a2 ((words u.den).length) ac2, .bool (rb v.num), .slice a3 ((words v.num.natAbs).length) ac3, .slice a4 ((words v.den).length) ac4]), (1, .int .i64 n)]) Tryz.func31 rfl Tryz.ntmps31 rfl rfl ?_
 intro Q hret hnorm hP a hA
 refine wp_seq_k (fun K1 hK1 => ?_)
 refine wp_region_lit ?_
 refine seq_new hA hS rfl rfl rfl (fun g => .pointer (some ⟨g, 0, none⟩)) (d_box rfl rfl) rfl ?_
 intro g2 w3 hS a hA
 refine seq_new (vs := [.bool false, .slice none 0 0, .slice none 0 0, .bool false, .slice none 0 0, .slice none 0 0]) (t := 26) hA hS rfl rfl rfl (fun g => .pointer (some ⟨g, 0, none⟩)) (d_alloc (z := .agg #[.bool false, .slice none 0 0, .slice none 0 0, .bool false, .slice none 0 0, .slice none 0 0]) (by kernel_rfl) rfl) rfl ?_
 intro g4 w5 hS a hA
 refine seq_do hA rfl rfl rfl (d_assign rfl) ?_
 intro a hA
 refine seq_end ?_
 refine hK1 _ _ ?_
 refine wp_seq_k (fun K6 hK6 => ?_)
 refine wp_seq_k (fun K7 hK7 => ?_)
 refine wp_region_lit ?_
 refine seq_do hA rfl rfl rfl (d_loadS hS SmI_isS_26 rfl 1 rfl (cs := [.bool (rb u.num), .slice a1 ((words u.num.natAbs).length) ac1, .slice a2 ((words u.den).length) ac2, .bool (rb v.num), .slice a3 ((words v.num.natAbs).length) ac3, .slice a4 ((words v.den).length) ac4]) rfl rfl) ?_
 intro a hA
 refine seq_call hA rfl rfl rfl (enters_func  rfl rfl (fun w => by kernel_rfl)) (rsoundQ_any (show Nm _ (Q6.rat u v) a1 ac1 a2 ac2 a3 ac3 a4 ac4 from ⟨⟨(hS.rd 3 rfl), ha.s1.nil, ha.s1.cap⟩, ⟨(hS.rd 2 rfl), ha.s2.nil, ha.s2.cap⟩, ⟨(hS.rd 1 rfl), ha.s3.nil, ha.s3.cap⟩, ⟨(hS.rd 0 rfl), ha.s4.nil, ha.s4.cap⟩⟩) (lenQ_rat hu hv) (soundQ_rat hu hv)) ?_
 rintro _ w9 ⟨rfl, hb8⟩
 replace hS := hS.call hb8
 refine ⟨_, rfl, ?_⟩
 intro a hA
 refine seq_do (v := .bool false) hA rfl rfl rfl (d_un rfl un_not) ?_
 intro a hA
 refine seq_end ?_
 refine hK7 _ _ ?_
 refine wp_cond_false (hA.ev rfl) ?_
 refine wp_skip ?_
 refine hK6 _ _ ?_
 refine wp_seq_k (fun K10 hK10 => ?_)
 refine wp_seq_k (fun K11 hK11 => ?_)
 refine wp_region_lit ?_
 refine seq_do hA rfl rfl rfl (d_move rfl) ?_
 intro a hA
 refine seq_do (v := .bool true) hA rfl rfl rfl (d_bin rfl rfl (fun w => (bin_lss w).trans (by rw [show (decide (n < -1024)) = true from (decide_eq_true (by omega))]))) ?_
 intro a hA
 refine seq_do hA rfl rfl rfl (d_move rfl) ?_
 intro a hA
 refine seq_skip hA rfl rfl rfl ?_
 intro a hA
 refine seq_skip hA rfl rfl rfl ?_
 intro a hA
 refine seq_do (v := .bool true) hA rfl rfl rfl (d_pick rfl rfl rfl rfl) ?_
 intro a hA
 refine seq_end ?_
 refine hK11 _ _ ?_
 refine wp_cond_true (hA.ev rfl) ?_
 refine wp_seq_k (fun K12 hK12 => ?_)
 refine wp_region_lit ?_
 refine seq_do (v := .agg #[.bool false, .slice none 0 0, .slice none 0 0, .bool false, .slice none 0 0, .slice none 0 0]) hA rfl rfl rfl (d_build rfl (fun w => by kernel_rfl)) ?_
 intro a hA
 refine seq_store (us := [.bool false, .slice none 0 0, .slice none 0 0, .bool false, .slice none 0 0, .slice none 0 0]) hA hS rfl rfl (sets_store rfl rfl rfl (by kernel_rfl) hS 0 rfl rfl rfl) 0 rfl rfl rfl rfl ?_
 intro w13 hS
 refine seq_do hA rfl rfl rfl (d_assign rfl) ?_
 intro a hA
 refine seq_end ?_
 refine hK12 _ _ ?_
 refine wp_ret ?_
 refine hret _ _ ?_
 refine ends (v := .tuple #[.agg #[.bool false, .slice none 0 0, .slice none 0 0, .bool false, .slice none 0 0, .slice none 0 0], .int .i64 1]) hA rfl (.cons (res_cell hS SmI_isS_26 rfl 0 rfl (cs := [.bool false, .slice none 0 0, .slice none 0 0, .bool false, .slice none 0 0, .slice none 0 0]) rfl rfl) (.cons (res_tmp rfl) .nil)) rfl ?_
 rw [exptQ_arg hu hv (.inl hn)]
 exact ⟨none, 0, none, 0, none, 0, none, 0, rfl, ⟨(Sc.none _), (Sc.none _), (Sc.none _), (Sc.none _)⟩, hS.bel⟩
theorem rexA2_any {w : World} {u v : Rat} {a1 a2 a3 a4 : Option Addr} {ac1 ac2 ac3 ac4 : Nat} (ha : Nm w (Q6.rat u v) a1 ac1 a2 ac2 a3 ac3 a4 ac4) (hu : fitR u) (hv : fitR v) {n : Int} (hn : 1024 < n) : Calls Tryz.prog 31 #[numV (Q6.rat u v) a1 ac1 a2 ac2 a3 ac3 a4 ac4, .int .i64 n] w (AnsN w (exptQ (Q6.rat u v) n)) := by
 have hS : St w w [] [(a4, words v.den), (a3, words v.num.natAbs), (a2, words u.den), (a1, words u.num.natAbs)] [] := ((((St.start w).addR ha.s1.rd).addR ha.s2.rd).addR ha.s3.rd).addR ha.s4.rd
 refine walk_of (l := [(0, .agg #[.bool (rb u.num), .slice a1 ((words u.num.natAbs).length) ac1, .slice a2 ((words u.den).length) ac2, .bool (rb v.num), .slice a3 ((words v.num.natAbs).length) ac3, .slice a4 ((words v.den).length) ac4]), (1, .int .i64 n)]) Tryz.func31 rfl Tryz.ntmps31 rfl rfl ?_
 intro Q hret hnorm hP a hA
 refine wp_seq_k (fun K1 hK1 => ?_)
 refine wp_region_lit ?_
 refine seq_new hA hS rfl rfl rfl (fun g => .pointer (some ⟨g, 0, none⟩)) (d_box rfl rfl) rfl ?_
 intro g2 w3 hS a hA
 refine seq_new (vs := [.bool false, .slice none 0 0, .slice none 0 0, .bool false, .slice none 0 0, .slice none 0 0]) (t := 26) hA hS rfl rfl rfl (fun g => .pointer (some ⟨g, 0, none⟩)) (d_alloc (z := .agg #[.bool false, .slice none 0 0, .slice none 0 0, .bool false, .slice none 0 0, .slice none 0 0]) (by kernel_rfl) rfl) rfl ?_
 intro g4 w5 hS a hA
 refine seq_do hA rfl rfl rfl (d_assign rfl) ?_
 intro a hA
 refine seq_end ?_
 refine hK1 _ _ ?_
 refine wp_seq_k (fun K6 hK6 => ?_)
 refine wp_seq_k (fun K7 hK7 => ?_)
 refine wp_region_lit ?_
 refine seq_do hA rfl rfl rfl (d_loadS hS SmI_isS_26 rfl 1 rfl (cs := [.bool (rb u.num), .slice a1 ((words u.num.natAbs).length) ac1, .slice a2 ((words u.den).length) ac2, .bool (rb v.num), .slice a3 ((words v.num.natAbs).length) ac3, .slice a4 ((words v.den).length) ac4]) rfl rfl) ?_
 intro a hA
 refine seq_call hA rfl rfl rfl (enters_func  rfl rfl (fun w => by kernel_rfl)) (rsoundQ_any (show Nm _ (Q6.rat u v) a1 ac1 a2 ac2 a3 ac3 a4 ac4 from ⟨⟨(hS.rd 3 rfl), ha.s1.nil, ha.s1.cap⟩, ⟨(hS.rd 2 rfl), ha.s2.nil, ha.s2.cap⟩, ⟨(hS.rd 1 rfl), ha.s3.nil, ha.s3.cap⟩, ⟨(hS.rd 0 rfl), ha.s4.nil, ha.s4.cap⟩⟩) (lenQ_rat hu hv) (soundQ_rat hu hv)) ?_
 rintro _ w9 ⟨rfl, hb8⟩
 replace hS := hS.call hb8
 refine ⟨_, rfl, ?_⟩
 intro a hA
 refine seq_do (v := .bool false) hA rfl rfl rfl (d_un rfl un_not) ?_
 intro a hA
 refine seq_end ?_
 refine hK7 _ _ ?_
 refine wp_cond_false (hA.ev rfl) ?_
 refine wp_skip ?_
 refine hK6 _ _ ?_
 refine wp_seq_k (fun K10 hK10 => ?_)
 refine wp_seq_k (fun K11 hK11 => ?_)
 refine wp_region_lit ?_
 refine seq_do hA rfl rfl rfl (d_move rfl) ?_
 intro a hA
 refine seq_do (v := .bool false) hA rfl rfl rfl (d_bin rfl rfl (fun w => (bin_lss w).trans (by rw [show (decide (n < -1024)) = false from (decide_eq_false (by omega))]))) ?_
 intro a hA
 refine seq_do hA rfl rfl rfl (d_move rfl) ?_
 intro a hA
 refine seq_do hA rfl rfl rfl (d_move rfl) ?_
 intro a hA
 refine seq_do (v := .bool true) hA rfl rfl rfl (d_bin rfl rfl (fun w => (bin_gtr w).trans (by rw [show (decide (1024 < n)) = true from (decide_eq_true (by omega))]))) ?_
 intro a hA
 refine seq_do (v := .bool true) hA rfl rfl rfl (d_pick rfl rfl rfl rfl) ?_
 intro a hA
 refine seq_end ?_
 refine hK11 _ _ ?_
 refine wp_cond_true (hA.ev rfl) ?_
 refine wp_seq_k (fun K12 hK12 => ?_)
 refine wp_region_lit ?_
 refine seq_do (v := .agg #[.bool false, .slice none 0 0, .slice none 0 0, .bool false, .slice none 0 0, .slice none 0 0]) hA rfl rfl rfl (d_build rfl (fun w => by kernel_rfl)) ?_
 intro a hA
 refine seq_store (us := [.bool false, .slice none 0 0, .slice none 0 0, .bool false, .slice none 0 0, .slice none 0 0]) hA hS rfl rfl (sets_store rfl rfl rfl (by kernel_rfl) hS 0 rfl rfl rfl) 0 rfl rfl rfl rfl ?_
 intro w13 hS
 refine seq_do hA rfl rfl rfl (d_assign rfl) ?_
 intro a hA
 refine seq_end ?_
 refine hK12 _ _ ?_
 refine wp_ret ?_
 refine hret _ _ ?_
 refine ends (v := .tuple #[.agg #[.bool false, .slice none 0 0, .slice none 0 0, .bool false, .slice none 0 0, .slice none 0 0], .int .i64 1]) hA rfl (.cons (res_cell hS SmI_isS_26 rfl 0 rfl (cs := [.bool false, .slice none 0 0, .slice none 0 0, .bool false, .slice none 0 0, .slice none 0 0]) rfl rfl) (.cons (res_tmp rfl) .nil)) rfl ?_
 rw [exptQ_arg hu hv (.inr hn)]
 exact ⟨none, 0, none, 0, none, 0, none, 0, rfl, ⟨(Sc.none _), (Sc.none _), (Sc.none _), (Sc.none _)⟩, hS.bel⟩
theorem rex0_any {w : World} {u v : Rat} {a1 a2 a3 a4 : Option Addr} {ac1 ac2 ac3 ac4 : Nat} (ha : Nm w (Q6.rat u v) a1 ac1 a2 ac2 a3 ac3 a4 ac4) (hu : fitR u) (hv : fitR v)  : Calls Tryz.prog 31 #[numV (Q6.rat u v) a1 ac1 a2 ac2 a3 ac3 a4 ac4, .int .i64 0] w (AnsN w (exptQ (Q6.rat u v) 0)) := by
 have hS : St w w [] [(a4, words v.den), (a3, words v.num.natAbs), (a2, words u.den), (a1, words u.num.natAbs)] [] := ((((St.start w).addR ha.s1.rd).addR ha.s2.rd).addR ha.s3.rd).addR ha.s4.rd
 refine walk_of (l := [(0, .agg #[.bool (rb u.num), .slice a1 ((words u.num.natAbs).length) ac1, .slice a2 ((words u.den).length) ac2, .bool (rb v.num), .slice a3 ((words v.num.natAbs).length) ac3, .slice a4 ((words v.den).length) ac4]), (1, .int .i64 0)]) Tryz.func31 rfl Tryz.ntmps31 rfl rfl ?_
 intro Q hret hnorm hP a hA
 refine wp_seq_k (fun K1 hK1 => ?_)
 refine wp_region_lit ?_
 refine seq_new hA hS rfl rfl rfl (fun g => .pointer (some ⟨g, 0, none⟩)) (d_box rfl rfl) rfl ?_
 intro g2 w3 hS a hA
 refine seq_new (vs := [.bool false, .slice none 0 0, .slice none 0 0, .bool false, .slice none 0 0, .slice none 0 0]) (t := 26) hA hS rfl rfl rfl (fun g => .pointer (some ⟨g, 0, none⟩)) (d_alloc (z := .agg #[.bool false, .slice none 0 0, .slice none 0 0, .bool false, .slice none 0 0, .slice none 0 0]) (by kernel_rfl) rfl) rfl ?_
 intro g4 w5 hS a hA
 refine seq_do hA rfl rfl rfl (d_assign rfl) ?_
 intro a hA
 refine seq_end ?_
 refine hK1 _ _ ?_
 refine wp_seq_k (fun K6 hK6 => ?_)
 refine wp_seq_k (fun K7 hK7 => ?_)
 refine wp_region_lit ?_
 refine seq_do hA rfl rfl rfl (d_loadS hS SmI_isS_26 rfl 1 rfl (cs := [.bool (rb u.num), .slice a1 ((words u.num.natAbs).length) ac1, .slice a2 ((words u.den).length) ac2, .bool (rb v.num), .slice a3 ((words v.num.natAbs).length) ac3, .slice a4 ((words v.den).length) ac4]) rfl rfl) ?_
 intro a hA
 refine seq_call hA rfl rfl rfl (enters_func  rfl rfl (fun w => by kernel_rfl)) (rsoundQ_any (show Nm _ (Q6.rat u v) a1 ac1 a2 ac2 a3 ac3 a4 ac4 from ⟨⟨(hS.rd 3 rfl), ha.s1.nil, ha.s1.cap⟩, ⟨(hS.rd 2 rfl), ha.s2.nil, ha.s2.cap⟩, ⟨(hS.rd 1 rfl), ha.s3.nil, ha.s3.cap⟩, ⟨(hS.rd 0 rfl), ha.s4.nil, ha.s4.cap⟩⟩) (lenQ_rat hu hv) (soundQ_rat hu hv)) ?_
 rintro _ w9 ⟨rfl, hb8⟩
 replace hS := hS.call hb8
 refine ⟨_, rfl, ?_⟩
 intro a hA
 refine seq_do (v := .bool false) hA rfl rfl rfl (d_un rfl un_not) ?_
 intro a hA
 refine seq_end ?_
 refine hK7 _ _ ?_
 refine wp_cond_false (hA.ev rfl) ?_
 refine wp_skip ?_
 refine hK6 _ _ ?_
 refine wp_seq_k (fun K10 hK10 => ?_)
 refine wp_seq_k (fun K11 hK11 => ?_)
 refine wp_region_lit ?_
 refine seq_do hA rfl rfl rfl (d_move rfl) ?_
 intro a hA
 refine seq_do (v := .bool false) hA rfl rfl rfl (d_bin rfl rfl (fun w => by kernel_rfl)) ?_
 intro a hA
 refine seq_do hA rfl rfl rfl (d_move rfl) ?_
 intro a hA
 refine seq_do hA rfl rfl rfl (d_move rfl) ?_
 intro a hA
 refine seq_do (v := .bool false) hA rfl rfl rfl (d_bin rfl rfl (fun w => by kernel_rfl)) ?_
 intro a hA
 refine seq_do (v := .bool false) hA rfl rfl rfl (d_pick rfl rfl rfl rfl) ?_
 intro a hA
 refine seq_end ?_
 refine hK11 _ _ ?_
 refine wp_cond_false (hA.ev rfl) ?_
 refine wp_skip ?_
 refine hK10 _ _ ?_
 refine wp_seq_k (fun K12 hK12 => ?_)
 refine wp_seq_k (fun K13 hK13 => ?_)
 refine wp_region_lit ?_
 refine seq_do hA rfl rfl rfl (d_move rfl) ?_
 intro a hA
 refine seq_do (v := .bool true) hA rfl rfl rfl (d_bin rfl rfl (fun w => by kernel_rfl)) ?_
 intro a hA
 refine seq_end ?_
 refine hK13 _ _ ?_
 refine wp_cond_true (hA.ev rfl) ?_
 refine wp_seq_k (fun K14 hK14 => ?_)
 refine wp_region_lit ?_
 refine seq_call hA rfl rfl rfl (enters_func  rfl rfl (fun w => by kernel_rfl)) (rintP_any (k := 1) (by decide)) ?_
 rintro _ w18 ⟨p15_1, p15_c1, p15_2, p15_c2, p15_3, p15_c3, p15_4, p15_c4, rfl, hn16, hb17⟩
 replace hS := hS.call hb17
 replace hS := hS.addR hn16.s1.rd
 replace hS := hS.addR hn16.s2.rd
 replace hS := hS.addR hn16.s3.rd
 replace hS := hS.addR hn16.s4.rd
 refine ⟨_, rfl, ?_⟩
 intro a hA
 refine seq_store (us := [.bool false, .slice p15_1 ((words 1).length) p15_c1, .slice p15_2 1 p15_c2, .bool false, .slice p15_3 0 p15_c3, .slice p15_4 1 p15_c4]) hA hS rfl rfl (sets_store rfl rfl rfl (by kernel_rfl) hS 0 rfl rfl rfl) 0 rfl rfl rfl rfl ?_
 intro w19 hS
 refine seq_do hA rfl rfl rfl (d_assign rfl) ?_
 intro a hA
 refine seq_end ?_
 refine hK14 _ _ ?_
 refine wp_ret ?_
 refine hret _ _ ?_
 refine ends (v := .tuple #[.agg #[.bool false, .slice p15_1 ((words 1).length) p15_c1, .slice p15_2 1 p15_c2, .bool false, .slice p15_3 0 p15_c3, .slice p15_4 1 p15_c4], .int .i64 0]) hA rfl (.cons (res_cell hS SmI_isS_26 rfl 0 rfl (cs := [.bool false, .slice p15_1 ((words 1).length) p15_c1, .slice p15_2 1 p15_c2, .bool false, .slice p15_3 0 p15_c3, .slice p15_4 1 p15_c4]) rfl rfl) (.cons (res_tmp rfl) .nil)) rfl ?_
 rw [exptQ_0 hu hv]
 exact ⟨p15_1, p15_c1, p15_2, p15_c2, p15_3, p15_c3, p15_4, p15_c4, rfl, ⟨⟨(hS.rd 3 rfl), hn16.s1.nil, hn16.s1.cap⟩, ⟨(hS.rd 2 rfl), hn16.s2.nil, hn16.s2.cap⟩, ⟨(hS.rd 1 rfl), hn16.s3.nil, hn16.s3.cap⟩, ⟨(hS.rd 0 rfl), hn16.s4.nil, hn16.s4.cap⟩⟩, hS.bel⟩
theorem rexZ_any {w : World} {u v : Rat} {a1 a2 a3 a4 : Option Addr} {ac1 ac2 ac3 ac4 : Nat} (ha : Nm w (Q6.rat u v) a1 ac1 a2 ac2 a3 ac3 a4 ac4) (hu : fitR u) (hv : fitR v) {N : Nat} (h1 : 1 ≤ N) (h2 : N ≤ 1024) (hz : u = 0 ∧ v = 0) : Calls Tryz.prog 31 #[numV (Q6.rat u v) a1 ac1 a2 ac2 a3 ac3 a4 ac4, .int .i64 (-((N : Nat) : Int))] w (AnsN w (exptQ (Q6.rat u v) (-((N : Nat) : Int)))) := by
 have hS : St w w [] [(a4, words v.den), (a3, words v.num.natAbs), (a2, words u.den), (a1, words u.num.natAbs)] [] := ((((St.start w).addR ha.s1.rd).addR ha.s2.rd).addR ha.s3.rd).addR ha.s4.rd
 refine walk_of (l := [(0, .agg #[.bool (rb u.num), .slice a1 ((words u.num.natAbs).length) ac1, .slice a2 ((words u.den).length) ac2, .bool (rb v.num), .slice a3 ((words v.num.natAbs).length) ac3, .slice a4 ((words v.den).length) ac4]), (1, .int .i64 (-((N : Nat) : Int)))]) Tryz.func31 rfl Tryz.ntmps31 rfl rfl ?_
 intro Q hret hnorm hP a hA
 refine wp_seq_k (fun K1 hK1 => ?_)
 refine wp_region_lit ?_
 refine seq_new hA hS rfl rfl rfl (fun g => .pointer (some ⟨g, 0, none⟩)) (d_box rfl rfl) rfl ?_
 intro g2 w3 hS a hA
 refine seq_new (vs := [.bool false, .slice none 0 0, .slice none 0 0, .bool false, .slice none 0 0, .slice none 0 0]) (t := 26) hA hS rfl rfl rfl (fun g => .pointer (some ⟨g, 0, none⟩)) (d_alloc (z := .agg #[.bool false, .slice none 0 0, .slice none 0 0, .bool false, .slice none 0 0, .slice none 0 0]) (by kernel_rfl) rfl) rfl ?_
 intro g4 w5 hS a hA
 refine seq_do hA rfl rfl rfl (d_assign rfl) ?_
 intro a hA
 refine seq_end ?_
 refine hK1 _ _ ?_
 refine wp_seq_k (fun K6 hK6 => ?_)
 refine wp_seq_k (fun K7 hK7 => ?_)
 refine wp_region_lit ?_
 refine seq_do hA rfl rfl rfl (d_loadS hS SmI_isS_26 rfl 1 rfl (cs := [.bool (rb u.num), .slice a1 ((words u.num.natAbs).length) ac1, .slice a2 ((words u.den).length) ac2, .bool (rb v.num), .slice a3 ((words v.num.natAbs).length) ac3, .slice a4 ((words v.den).length) ac4]) rfl rfl) ?_
 intro a hA
 refine seq_call hA rfl rfl rfl (enters_func  rfl rfl (fun w => by kernel_rfl)) (rsoundQ_any (show Nm _ (Q6.rat u v) a1 ac1 a2 ac2 a3 ac3 a4 ac4 from ⟨⟨(hS.rd 3 rfl), ha.s1.nil, ha.s1.cap⟩, ⟨(hS.rd 2 rfl), ha.s2.nil, ha.s2.cap⟩, ⟨(hS.rd 1 rfl), ha.s3.nil, ha.s3.cap⟩, ⟨(hS.rd 0 rfl), ha.s4.nil, ha.s4.cap⟩⟩) (lenQ_rat hu hv) (soundQ_rat hu hv)) ?_
 rintro _ w9 ⟨rfl, hb8⟩
 replace hS := hS.call hb8
 refine ⟨_, rfl, ?_⟩
 intro a hA
 refine seq_do (v := .bool false) hA rfl rfl rfl (d_un rfl un_not) ?_
 intro a hA
 refine seq_end ?_
 refine hK7 _ _ ?_
 refine wp_cond_false (hA.ev rfl) ?_
 refine wp_skip ?_
 refine hK6 _ _ ?_
 refine wp_seq_k (fun K10 hK10 => ?_)
 refine wp_seq_k (fun K11 hK11 => ?_)
 refine wp_region_lit ?_
 refine seq_do hA rfl rfl rfl (d_move rfl) ?_
 intro a hA
 refine seq_do (v := .bool false) hA rfl rfl rfl (d_bin rfl rfl (fun w => (bin_lss w).trans (by rw [show (decide (-((N : Nat) : Int) < -1024)) = false from (decide_eq_false (by omega))]))) ?_
 intro a hA
 refine seq_do hA rfl rfl rfl (d_move rfl) ?_
 intro a hA
 refine seq_do hA rfl rfl rfl (d_move rfl) ?_
 intro a hA
 refine seq_do (v := .bool false) hA rfl rfl rfl (d_bin rfl rfl (fun w => (bin_gtr w).trans (by rw [show (decide (1024 < -((N : Nat) : Int))) = false from (decide_eq_false (by omega))]))) ?_
 intro a hA
 refine seq_do (v := .bool false) hA rfl rfl rfl (d_pick rfl rfl rfl rfl) ?_
 intro a hA
 refine seq_end ?_
 refine hK11 _ _ ?_
 refine wp_cond_false (hA.ev rfl) ?_
 refine wp_skip ?_
 refine hK10 _ _ ?_
 refine wp_seq_k (fun K12 hK12 => ?_)
 refine wp_seq_k (fun K13 hK13 => ?_)
 refine wp_region_lit ?_
 refine seq_do hA rfl rfl rfl (d_move rfl) ?_
 intro a hA
 refine seq_do (v := .bool false) hA rfl rfl rfl (d_bin rfl rfl (fun w => (bin_eql w).trans (by rw [show ((-((N : Nat) : Int) == 0)) = false from (beq_eq_false_iff_ne.2 (by omega))]))) ?_
 intro a hA
 refine seq_end ?_
 refine hK13 _ _ ?_
 refine wp_cond_false (hA.ev rfl) ?_
 refine wp_skip ?_
 refine hK12 _ _ ?_
 refine wp_seq_k (fun K14 hK14 => ?_)
 refine wp_seq_k (fun K15 hK15 => ?_)
 refine wp_region_lit ?_
 refine seq_do hA rfl rfl rfl (d_loadS hS SmI_isS_26 rfl 1 rfl (cs := [.bool (rb u.num), .slice a1 ((words u.num.natAbs).length) ac1, .slice a2 ((words u.den).length) ac2, .bool (rb v.num), .slice a3 ((words v.num.natAbs).length) ac3, .slice a4 ((words v.den).length) ac4]) rfl rfl) ?_
 intro a hA
 refine seq_call hA rfl rfl rfl (enters_func  rfl rfl (fun w => by kernel_rfl)) (risZero_any (show Nm _ (Q6.rat u v) a1 ac1 a2 ac2 a3 ac3 a4 ac4 from ⟨⟨(hS.rd 3 rfl), ha.s1.nil, ha.s1.cap⟩, ⟨(hS.rd 2 rfl), ha.s2.nil, ha.s2.cap⟩, ⟨(hS.rd 1 rfl), ha.s3.nil, ha.s3.cap⟩, ⟨(hS.rd 0 rfl), ha.s4.nil, ha.s4.cap⟩⟩) hu hv (decide_eq_true hz)) ?_
 rintro _ w17 ⟨rfl, hb16⟩
 replace hS := hS.call hb16
 refine ⟨_, rfl, ?_⟩
 intro a hA
 refine seq_do hA rfl rfl rfl (d_move rfl) ?_
 intro a hA
 refine seq_do hA rfl rfl rfl (d_move rfl) ?_
 intro a hA
 refine seq_do (v := .bool true) hA rfl rfl rfl (d_bin rfl rfl (fun w => (bin_lss w).trans (by rw [show (decide (-((N : Nat) : Int) < 0)) = true from (decide_eq_true (by omega))]))) ?_
 intro a hA
 refine seq_do (v := .bool true) hA rfl rfl rfl (d_pick rfl rfl rfl rfl) ?_
 intro a hA
 refine seq_end ?_
 refine hK15 _ _ ?_
 refine wp_cond_true (hA.ev rfl) ?_
 refine wp_seq_k (fun K18 hK18 => ?_)
 refine wp_region_lit ?_
 refine seq_do (v := .agg #[.bool false, .slice none 0 0, .slice none 0 0, .bool false, .slice none 0 0, .slice none 0 0]) hA rfl rfl rfl (d_build rfl (fun w => by kernel_rfl)) ?_
 intro a hA
 refine seq_store (us := [.bool false, .slice none 0 0, .slice none 0 0, .bool false, .slice none 0 0, .slice none 0 0]) hA hS rfl rfl (sets_store rfl rfl rfl (by kernel_rfl) hS 0 rfl rfl rfl) 0 rfl rfl rfl rfl ?_
 intro w19 hS
 refine seq_do hA rfl rfl rfl (d_assign rfl) ?_
 intro a hA
 refine seq_end ?_
 refine hK18 _ _ ?_
 refine wp_ret ?_
 refine hret _ _ ?_
 refine ends (v := .tuple #[.agg #[.bool false, .slice none 0 0, .slice none 0 0, .bool false, .slice none 0 0, .slice none 0 0], .int .i64 3]) hA rfl (.cons (res_cell hS SmI_isS_26 rfl 0 rfl (cs := [.bool false, .slice none 0 0, .slice none 0 0, .bool false, .slice none 0 0, .slice none 0 0]) rfl rfl) (.cons (res_tmp rfl) .nil)) rfl ?_
 rw [exptQ_z hu hv h1 h2 hz]
 exact ⟨none, 0, none, 0, none, 0, none, 0, rfl, ⟨(Sc.none _), (Sc.none _), (Sc.none _), (Sc.none _)⟩, hS.bel⟩
theorem rexE_any {w : World} {q : Q6} {a1 a2 a3 a4 : Option Addr} {ac1 ac2 ac3 ac4 : Nat} (ha : Nm w q a1 ac1 a2 ac2 a3 ac3 a4 ac4) (hl : LenQ q) {n : Int} (hs : soundQ q = false) : Calls Tryz.prog 31 #[numV q a1 ac1 a2 ac2 a3 ac3 a4 ac4, .int .i64 n] w (AnsN w (exptQ q n)) := by
 have hS : St w w [] [(a4, q.q2), (a3, q.t2), (a2, q.q1), (a1, q.t1)] [] := ((((St.start w).addR ha.s1.rd).addR ha.s2.rd).addR ha.s3.rd).addR ha.s4.rd
 refine walk_of (l := [(0, .agg #[.bool q.b1, .slice a1 q.t1.length ac1, .slice a2 q.q1.length ac2, .bool q.b2, .slice a3 q.t2.length ac3, .slice a4 q.q2.length ac4]), (1, .int .i64 n)]) Tryz.func31 rfl Tryz.ntmps31 rfl rfl ?_
 intro Q hret hnorm hP a hA
 refine wp_seq_k (fun K1 hK1 => ?_)
 refine wp_region_lit ?_
 refine seq_new hA hS rfl rfl rfl (fun g => .pointer (some ⟨g, 0, none⟩)) (d_box rfl rfl) rfl ?_
 intro g2 w3 hS a hA
 refine seq_new (vs := [.bool false, .slice none 0 0, .slice none 0 0, .bool false, .slice none 0 0, .slice none 0 0]) (t := 26) hA hS rfl rfl rfl (fun g => .pointer (some ⟨g, 0, none⟩)) (d_alloc (z := .agg #[.bool false, .slice none 0 0, .slice none 0 0, .bool false, .slice none 0 0, .slice none 0 0]) (by kernel_rfl) rfl) rfl ?_
 intro g4 w5 hS a hA
 refine seq_do hA rfl rfl rfl (d_assign rfl) ?_
 intro a hA
 refine seq_end ?_
 refine hK1 _ _ ?_
 refine wp_seq_k (fun K6 hK6 => ?_)
 refine wp_seq_k (fun K7 hK7 => ?_)
 refine wp_region_lit ?_
 refine seq_do hA rfl rfl rfl (d_loadS hS SmI_isS_26 rfl 1 rfl (cs := [.bool q.b1, .slice a1 q.t1.length ac1, .slice a2 q.q1.length ac2, .bool q.b2, .slice a3 q.t2.length ac3, .slice a4 q.q2.length ac4]) rfl rfl) ?_
 intro a hA
 refine seq_call hA rfl rfl rfl (enters_func  rfl rfl (fun w => by kernel_rfl)) (rsoundQ_any (show Nm _ _ a1 ac1 a2 ac2 a3 ac3 a4 ac4 from ⟨⟨(hS.rd 3 rfl), ha.s1.nil, ha.s1.cap⟩, ⟨(hS.rd 2 rfl), ha.s2.nil, ha.s2.cap⟩, ⟨(hS.rd 1 rfl), ha.s3.nil, ha.s3.cap⟩, ⟨(hS.rd 0 rfl), ha.s4.nil, ha.s4.cap⟩⟩) hl hs) ?_
 rintro _ w9 ⟨rfl, hb8⟩
 replace hS := hS.call hb8
 refine ⟨_, rfl, ?_⟩
 intro a hA
 refine seq_do (v := .bool true) hA rfl rfl rfl (d_un rfl un_not) ?_
 intro a hA
 refine seq_end ?_
 refine hK7 _ _ ?_
 refine wp_cond_true (hA.ev rfl) ?_
 refine wp_seq_k (fun K10 hK10 => ?_)
 refine wp_region_lit ?_
 refine seq_do (v := .agg #[.bool false, .slice none 0 0, .slice none 0 0, .bool false, .slice none 0 0, .slice none 0 0]) hA rfl rfl rfl (d_build rfl (fun w => by kernel_rfl)) ?_
 intro a hA
 refine seq_store (us := [.bool false, .slice none 0 0, .slice none 0 0, .bool false, .slice none 0 0, .slice none 0 0]) hA hS rfl rfl (sets_store rfl rfl rfl (by kernel_rfl) hS 0 rfl rfl rfl) 0 rfl rfl rfl rfl ?_
 intro w11 hS
 refine seq_do hA rfl rfl rfl (d_assign rfl) ?_
 intro a hA
 refine seq_end ?_
 refine hK10 _ _ ?_
 refine wp_ret ?_
 refine hret _ _ ?_
 refine ends (v := .tuple #[.agg #[.bool false, .slice none 0 0, .slice none 0 0, .bool false, .slice none 0 0, .slice none 0 0], .int .i64 2]) hA rfl (.cons (res_cell hS SmI_isS_26 rfl 0 rfl (cs := [.bool false, .slice none 0 0, .slice none 0 0, .bool false, .slice none 0 0, .slice none 0 0]) rfl rfl) (.cons (res_tmp rfl) .nil)) rfl ?_
 rw [exptQ_bad hs]
 exact ⟨none, 0, none, 0, none, 0, none, 0, rfl, ⟨(Sc.none _), (Sc.none _), (Sc.none _), (Sc.none _)⟩, hS.bel⟩
theorem pwB_fit9 {u v : Rat} {N : Nat} (h1 : 1 ≤ N) (h : pwB u v N = true) : fitR (pwR u v N).1 ∧ fitR (pwR u v N).2 := by
  obtain ⟨k, rfl⟩ : ∃ k, N = k + 1 := ⟨N - 1, by omega⟩
  unfold pwB at h
  rw [Bool.and_eq_true] at h
  exact fitB_ok h.2
theorem rexptQ_any {w : World} {q : Q6} {a1 a2 a3 a4 : Option Addr} {ac1 ac2 ac3 ac4 : Nat} (ha : Nm w q a1 ac1 a2 ac2 a3 ac3 a4 ac4) (hl : LenQ q) {n : Int} : Calls Tryz.prog 31 #[numV q a1 ac1 a2 ac2 a3 ac3 a4 ac4, .int .i64 n] w (AnsN w (exptQ q n)) := by
  rcases sound_cases ha with hs | ⟨u, v, rfl, hu, hv⟩
  · exact rexE_any ha hl hs
  by_cases n1 : n < -1024
  · exact rexA1_any ha hu hv n1
  by_cases n2 : 1024 < n
  · exact rexA2_any ha hu hv n2
  by_cases n3 : n = 0
  · subst n3
    exact rex0_any ha hu hv
  have LU := fit_lenR hu
  have LV := fit_lenR hv
  by_cases n4 : n < 0 ∧ (u = 0 ∧ v = 0)
  · obtain ⟨N, rfl⟩ : ∃ N : Nat, n = -(N : Int) := ⟨n.natAbs, by omega⟩
    exact rexZ_any ha hu hv (by omega) (by omega) n4.2
  have hz : n < 0 → ¬ (u = 0 ∧ v = 0) := fun c d => n4 ⟨c, d⟩
  obtain ⟨N, hN⟩ : ∃ N, n.natAbs = N := ⟨_, rfl⟩
  obtain ⟨i1, i2, j0⟩ : ∃ i1 i2, ivR (pwR u v N) = (i1, i2) := ⟨_, _, rfl⟩
  have LI : n < 0 → pwB u v N = true → LenR 9000 i1 ∧ LenR 9000 i2 := fun c hB => by
    have hf := pwB_fit9 (by omega) hB
    have hi := lenR_iv (fit_lenR hf.1) (fit_lenR hf.2) (pwR_ne (hz c) N)
    have e1 : (pwR u v N).1 / ((pwR u v N).1 * (pwR u v N).1 + (pwR u v N).2 * (pwR u v N).2) = i1 := congrArg Prod.fst j0
    have e2 : -(pwR u v N).2 / ((pwR u v N).1 * (pwR u v N).1 + (pwR u v N).2 * (pwR u v N).2) = i2 := congrArg Prod.snd j0
    rw [e1, e2] at hi
    exact hi
  by_cases k2 : (Q6.rat u v).t2.length = 0
  · have hv0 := real_zero k2
    cases hsu : rb u.num with
    | false => exact rexRf_any ha hu hv hN (by omega) (by omega) hz (decide_eq_true k2) hv0 hsu LU j0 LI
    | true => exact rexRt_any ha hu hv hN (by omega) (by omega) hz (decide_eq_true k2) hv0 hsu LU j0 LI
  · exact rexC_any ha hu hv hN (by omega) (by omega) hz (decide_eq_false k2) LU LV j0 LI
theorem rexptQ_as {w : World} {q : Q6} {a1 a2 a3 a4 : Option Addr} {ac1 ac2 ac3 ac4 : Nat} (ha : Nm w q a1 ac1 a2 ac2 a3 ac3 a4 ac4) (hl : LenQ q) {n : Int} {z : Q6 × Int} (hz : exptQ q n = z) : Calls Tryz.prog 31 #[numV q a1 ac1 a2 ac2 a3 ac3 a4 ac4, .int .i64 n] w (AnsN w z) := hz ▸ rexptQ_any ha hl
end Go.Proofs.YthlkbnhbmfmchaaGreat
