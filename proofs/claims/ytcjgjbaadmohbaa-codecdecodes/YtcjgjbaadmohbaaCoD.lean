/- Walks of the units that a codec takes of bytes. -/
import Derived.Test.YtcjgjbaadmohbaaCoC
namespace Go.Proofs.Ytcjgjbaadmohbaa
open Go.RowKit
set_option linter.unusedVariables false
set_option linter.unusedSimpArgs false
set_option maxRecDepth 100000

theorem eachLatin1_any {w0 w : World} {s : ByteArray} {f : FuncId} {cs : List Value} {σ : Type} {A : Nat → σ → List Ck → Prop} {step : σ → Int → Int → σ × Bool} (hV : Visits Try.prog w0 f cs A step) {s0 : σ} {X T0 : List Ck} (hqX : ∀ d ∈ X, quietC d) (hA0 : A s.size s0 T0) (hM0 : Mg w0 w (X ++ T0)) (hs : s.size ≤ 70000) : Calls Try.prog 65 #[.string s, .func (.func f) #[] cs.toArray] w (fun e w' => e = .returned (.tuple #[]) ∧ ∃ T', A 0 (runV step s0 (unitsB 0 s.data.toList)) T' ∧ Mg w0 w' (X ++ T')) := by
 have hM : Mg w0 w ((X ++ T0)) := hM0
 refine walk_of (l := [(0, .string s), (1, .func (.func f) #[] cs.toArray)]) Try.func65 rfl Try.ntmps65 rfl rfl ?_
 intro Q hret hnorm hP a hA
 refine wp_seq_k (fun K1 hK1 => ?_)
 refine wp_region_lit ?_
 refine seq_do hA rfl rfl rfl (does_move rfl) ?_
 intro a hA
 refine seq_do (v := .int .i64 (((s.size : Nat) : Int))) hA rfl rfl rfl (does_builtin rfl (len_str Try.underlying9)) ?_
 intro a hA
 refine seq_do hA rfl rfl rfl (does_move rfl) ?_
 intro a hA
 refine seq_end ?_
 refine hK1 _ _ ?_
 refine wp_block ?_
 refine wp_loop_n (fun m_ a w1 => ∃ (p : Nat) (s1 : σ) (T1 : List Ck), m_ = s.size - p ∧ (A (s.size - p) s1 T1 ∧ runV step s1 (unitsB p (s.data.toList.drop p)) = runV step s0 (unitsB 0 s.data.toList) ∧ p ≤ s.size) ∧ Sl a 19 [(0, .string s), (1, .func (.func f) #[] cs.toArray), (5, .string s), (6, .int .i64 (((s.size : Nat) : Int))), (7, .int .i64 (((p : Nat) : Int)))] ∧ Mg w0 w1 ((X ++ T1))) _ ⟨0, s0, T0, rfl, ⟨hA0, by rw [List.drop_zero], Nat.zero_le _⟩, hA.keep _ ⟨rfl, rfl, rfl, rfl, rfl, trivial⟩, hM⟩ ?_
 clear hM hA
 rintro m_ a w2 ⟨p, s1, T1, rfl, hinv4, hA, hM⟩ K3 hK3
 obtain ⟨hA1, hrun, hp9⟩ := hinv4
 refine wp_seq_k (fun K5 hK5 => ?_)
 refine wp_region_lit ?_
 rcases Bool.eq_false_or_eq_true (decide (((p : Nat) : Int) < ((s.size : Nat) : Int))) with hb6 | hb6
 · have hb6' := of_decide_eq_true hb6
   refine seq_do (v := .bool true) hA rfl rfl rfl (does_bin rfl rfl (fun w => (bin_lss w).trans (by rw [hb6]))) ?_
   intro a hA
   refine seq_end ?_
   refine hK5 _ _ ?_
   refine wp_seq_k (fun K7 hK7 => ?_)
   refine wp_cond_true (hA.ev rfl) ?_
   refine wp_skip ?_
   refine hK7 _ _ ?_
   refine wp_seq_k (fun K8 hK8 => ?_)
   refine wp_block ?_
   refine wp_seq_k (fun K9 hK9 => ?_)
   refine wp_region_lit ?_
   refine seq_do hA rfl rfl rfl (does_move rfl) ?_
   intro a hA
   refine seq_do hA rfl rfl rfl (does_assign rfl) ?_
   intro a hA
   refine seq_end ?_
   refine hK9 _ _ ?_
   refine wp_seq_k (fun K10 hK10 => ?_)
   refine wp_region_lit ?_
   refine seq_do hA rfl rfl rfl (does_move rfl) ?_
   intro a hA
   refine seq_do hA rfl rfl rfl (does_move rfl) ?_
   intro a hA
   refine seq_do hA rfl rfl rfl (does_move rfl) ?_
   intro a hA
   refine seq_do hA rfl rfl rfl (does_move rfl) ?_
   intro a hA
   refine seq_do (v := .int .u8 ((((s.data.toList.getD p 0).toNat : Nat) : Int))) hA rfl rfl rfl (does_indexS (i := p) Try.underlying9 rfl rfl rfl (by omega)) ?_
   intro a hA
   refine seq_do (v := .int .i32 ((((s.data.toList.getD p 0).toNat : Nat) : Int))) hA rfl rfl rfl (does_convert rfl (ar_conv Try.underlying5 Try.underlying21 (in_i32 (by omega) (by have h9 := byte_lt s.data.toList p; omega)))) ?_
   intro a hA
   have hA1 : A (s.size - p - 1 + 1) s1 T1 := (show s.size - p = s.size - p - 1 + 1 by omega) ▸ hA1
   refine seq_call hA rfl rfl rfl (enters_fn rfl rfl hV.inv) (hV.run (s.size - p - 1) s1 (((p : Nat) : Int)) ((((s.data.toList.getD p 0).toNat : Nat) : Int)) _ (X) T1 hA1 (byte_ok _ _) hqX hM) ?_
   rintro _ w14 ⟨rfl, T11, hA12, hM13⟩
   replace hM : Mg w0 w14 ((X ++ T11)) := hM13
   refine ⟨_, rfl, ?_⟩
   intro a hA
   refine seq_do (v := .bool (!((step s1 (((p : Nat) : Int)) ((((s.data.toList.getD p 0).toNat : Nat) : Int))).2))) hA rfl rfl rfl (does_un rfl un_not) ?_
   intro a hA
   refine seq_end ?_
   refine hK10 _ _ ?_
   refine wp_cond_split (t := !((step s1 (((p : Nat) : Int)) ((((s.data.toList.getD p 0).toNat : Nat) : Int))).2)) (hA.ev rfl) (fun hc15 => ?_) (fun hc15 => ?_)
   · refine wp_ret ?_
     refine hret _ _ ?_
     refine ends (v := .tuple #[]) hA rfl .nil rfl ?_
     have h6 := unitsB_step (l := s.data.toList) (p := p) (by rw [size_toList]; omega)
     refine ⟨rfl, T11, ?_, hM⟩
     rw [← hrun, h6, runV_stop (by simpa using hc15)]
     exact hV.mono _ _ _ _ (Nat.zero_le _) hA12
   · refine wp_skip ?_
     refine hK8 _ _ ?_
     refine wp_region_lit ?_
     refine seq_do (v := .int .i64 (((p + 1 : Nat) : Int))) hA rfl rfl rfl (does_bin rfl rfl (ar_add ((in_i64 (by omega) (by omega)).trans (by omega)))) ?_
     intro a hA
     refine seq_do hA rfl rfl rfl (does_move rfl) ?_
     intro a hA
     refine seq_end ?_
     have h6 := unitsB_step (l := s.data.toList) (p := p) (by rw [size_toList]; omega)
     refine hK3 _ _ _ (by omega) ⟨p + 1, (step s1 (((p : Nat) : Int)) ((((s.data.toList.getD p 0).toNat : Nat) : Int))).1, T11, rfl, ⟨hV.mono _ _ _ _ (by omega) hA12, by rw [← hrun, h6, runV_go (by simpa using hc15)], by omega⟩, hA.keep _ ⟨rfl, rfl, rfl, rfl, rfl, trivial⟩, hM⟩
 · have hb6' := of_decide_eq_false hb6
   refine seq_do (v := .bool false) hA rfl rfl rfl (does_bin rfl rfl (fun w => (bin_lss w).trans (by rw [hb6]))) ?_
   intro a hA
   refine seq_end ?_
   refine hK5 _ _ ?_
   refine wp_seq_k (fun K16 hK16 => ?_)
   refine wp_cond_false (hA.ev rfl) ?_
   refine wp_exit ?_
   refine hnorm _ _ ?_
   refine ends (v := .tuple #[]) hA rfl .nil rfl ?_
   refine ⟨rfl, T1, ?_, hM⟩
   rw [← hrun, unitsB_over (by rw [size_toList]; omega)]
   exact hV.mono _ _ _ _ (Nat.zero_le _) hA1
theorem eachUtf16_any {w0 w : World} {s : ByteArray} {f : FuncId} {cs : List Value} {σ : Type} {A : Nat → σ → List Ck → Prop} {step : σ → Int → Int → σ × Bool} (hV : Visits Try.prog w0 f cs A step) {s0 : σ} {X T0 : List Ck} (hqX : ∀ d ∈ X, quietC d) (hA0 : A s.size s0 T0) (hM0 : Mg w0 w (X ++ T0)) (hs : s.size ≤ 70000) : Calls Try.prog 66 #[.string s, .func (.func f) #[] cs.toArray] w (fun e w' => e = .returned (.tuple #[]) ∧ ∃ T', A 0 (runV step s0 (unitsW s.data.toList)) T' ∧ Mg w0 w' (X ++ T')) := by
 have hM : Mg w0 w ((X ++ T0)) := hM0
 refine walk_of (l := [(0, .string s), (1, .func (.func f) #[] cs.toArray)]) Try.func66 rfl Try.ntmps66 rfl rfl ?_
 intro Q hret hnorm hP a hA
 refine wp_seq_k (fun K1 hK1 => ?_)
 refine wp_region_lit ?_
 refine seq_do hA rfl rfl rfl (does_assign rfl) ?_
 intro a hA
 refine seq_do hA rfl rfl rfl (does_assign rfl) ?_
 intro a hA
 refine seq_end ?_
 refine hK1 _ _ ?_
 refine wp_seq_k (fun K2 hK2 => ?_)
 refine wp_block ?_
 refine wp_seq_k (fun K3 hK3 => ?_)
 refine wp_region_lit ?_
 refine seq_do hA rfl rfl rfl (does_move rfl) ?_
 intro a hA
 rcases Bool.eq_false_or_eq_true (Lib.hasPrefix s.data.toList [254, 255]) with hb4 | hb4
 · refine seq_call hA rfl rfl rfl (enters_func rfl rfl (fun w => by kernel_rfl)) ((show Calls Try.prog 81 #[.string s, .string ⟨#[254, 255]⟩] _ (fun e w' => e = .returned (.bool true) ∧ w' = w) from (by have h8 := Try.strings_HasPrefix s ⟨#[254, 255]⟩ w; rw [show (⟨#[254, 255]⟩ : ByteArray).data.toList = [254, 255] from rfl, show Lib.hasPrefix s.data.toList [254, 255] = true from hb4] at h8; exact h8))) ?_
   rintro _ w6 ⟨rfl, hb5⟩
   subst hb5
   refine ⟨_, rfl, ?_⟩
   intro a hA
   refine seq_do hA rfl rfl rfl (does_assign rfl) ?_
   intro a hA
   refine seq_end ?_
   refine hK3 _ _ ?_
   refine wp_cond_true (hA.ev rfl) ?_
   refine wp_region_lit ?_
   refine seq_do hA rfl rfl rfl (does_assign rfl) ?_
   intro a hA
   refine seq_end ?_
   refine hK2 _ _ ?_
   refine wp_block ?_
   refine wp_loop_n (fun m_ a w1 => ∃ (p : Nat) (s1 : σ) (T1 : List Ck), m_ = s.size - p ∧ (A (s.size - p) s1 T1 ∧ runV step s1 (rest16 hi2 s p) = runV step s0 (unitsW s.data.toList) ∧ p ≤ s.size) ∧ Sl a 34 [(0, .string s), (1, .func (.func f) #[] cs.toArray), (4, .int .i64 (((p : Nat) : Int))), (5, .func (.func 82) #[] #[]), (8, .bool true), (9, .string s), (10, .bool true)] ∧ Mg w0 w1 ((X ++ T1))) _ ⟨2, s0, T0, rfl, ⟨hV.mono _ _ _ _ (by omega) hA0, by rw [unitsW_hi hb4], (by have h5 := prefix_len hb4; rw [size_toList] at h5; exact h5)⟩, hA.keep _ ⟨rfl, rfl, rfl, rfl, rfl, rfl, rfl, trivial⟩, hM⟩ ?_
   clear hM hA
   rintro m_ a w7 ⟨p, s1, T1, rfl, hinv9, hA, hM⟩ K8 hK8
   obtain ⟨hA1, hrun, hp9⟩ := hinv9
   refine wp_seq_k (fun K10 hK10 => ?_)
   refine wp_seq_k (fun K11 hK11 => ?_)
   refine wp_region_lit ?_
   refine seq_do hA rfl rfl rfl (does_move rfl) ?_
   intro a hA
   refine seq_do hA rfl rfl rfl (does_move rfl) ?_
   intro a hA
   refine seq_do (v := .int .i64 (((s.size : Nat) : Int))) hA rfl rfl rfl (does_builtin rfl (len_str Try.underlying9)) ?_
   intro a hA
   rcases Bool.eq_false_or_eq_true (decide (((p : Nat) : Int) < ((s.size : Nat) : Int))) with hb12 | hb12
   · have hb12' := of_decide_eq_true hb12
     refine seq_do (v := .bool true) hA rfl rfl rfl (does_bin rfl rfl (fun w => (bin_lss w).trans (by rw [hb12]))) ?_
     intro a hA
     refine seq_end ?_
     refine hK11 _ _ ?_
     refine wp_cond_true (hA.ev rfl) ?_
     refine wp_skip ?_
     refine hK10 _ _ ?_
     refine wp_block ?_
     refine wp_seq_k (fun K13 hK13 => ?_)
     refine wp_region_lit ?_
     refine seq_do hA rfl rfl rfl (does_move rfl) ?_
     intro a hA
     refine seq_do hA rfl rfl rfl (does_move rfl) ?_
     intro a hA
     refine seq_do (v := .string (s.extract p s.size)) hA rfl rfl rfl (does_sliceFrom Try.underlying9 rfl rfl (by omega)) ?_
     intro a hA
     refine seq_do hA rfl rfl rfl (does_move rfl) ?_
     intro a hA
     obtain ⟨cr15, cq16, he17⟩ : ∃ r q, first16 hi2 (s.data.toList.drop p) = (r, q) := ⟨_, _, rfl⟩
     have h6 := rest16_step (g := hi2) (by omega) he17
     refine seq_call hA rfl rfl rfl (enters_func rfl rfl (fun w => by kernel_rfl)) ((show Calls Try.prog 84 #[.string (s.extract p s.size), .func (.func 82) #[] #[]] _ (fun e w' => e = .returned (.tuple #[.int .i32 cr15, .int .i64 ((cq16 : Nat) : Int)]) ∧ _) from (by have h8 := first16_any (w := w7) (s := s.extract p s.size) highFirst_num; rw [extract_toList, he17] at h8; exact h8))) ?_
     rintro _ w18 ⟨rfl, hb14⟩
     replace hM := hM.call hb14
     refine ⟨_, rfl, ?_⟩
     intro a hA
     refine seq_do hA rfl rfl rfl (does_move rfl) ?_
     intro a hA
     refine seq_do (v := .int .i32 cr15) hA rfl rfl rfl (does_extract (vs := [.int .i32 cr15, .int .i64 (((cq16 : Nat) : Int))]) rfl rfl) ?_
     intro a hA
     refine seq_do (v := .int .i64 (((cq16 : Nat) : Int))) hA rfl rfl rfl (does_extract (vs := [.int .i32 cr15, .int .i64 (((cq16 : Nat) : Int))]) rfl rfl) ?_
     intro a hA
     refine seq_do hA rfl rfl rfl (does_assign rfl) ?_
     intro a hA
     refine seq_do hA rfl rfl rfl (does_assign rfl) ?_
     intro a hA
     refine seq_end ?_
     refine hK13 _ _ ?_
     refine wp_seq_k (fun K19 hK19 => ?_)
     refine wp_seq_k (fun K20 hK20 => ?_)
     refine wp_region_lit ?_
     refine seq_do hA rfl rfl rfl (does_move rfl) ?_
     intro a hA
     refine seq_do hA rfl rfl rfl (does_move rfl) ?_
     intro a hA
     refine seq_do hA rfl rfl rfl (does_move rfl) ?_
     intro a hA
     have hA1 : A (s.size - p - 1 + 1) s1 T1 := (show s.size - p = s.size - p - 1 + 1 by omega) ▸ hA1
     refine seq_call hA rfl rfl rfl (enters_fn rfl rfl hV.inv) (hV.run (s.size - p - 1) s1 (((p : Nat) : Int)) (cr15) _ (X) T1 hA1 (by have h7 := first16_ok (g := hi2) highFirst_num.lt (s.data.toList.drop p); rw [he17] at h7; exact h7) hqX hM) ?_
     rintro _ w24 ⟨rfl, T21, hA22, hM23⟩
     replace hM : Mg w0 w24 ((X ++ T21)) := hM23
     refine ⟨_, rfl, ?_⟩
     intro a hA
     refine seq_do (v := .bool (!((step s1 (((p : Nat) : Int)) (cr15)).2))) hA rfl rfl rfl (does_un rfl un_not) ?_
     intro a hA
     refine seq_end ?_
     refine hK20 _ _ ?_
     refine wp_cond_split (t := !((step s1 (((p : Nat) : Int)) (cr15)).2)) (hA.ev rfl) (fun hc25 => ?_) (fun hc25 => ?_)
     · refine wp_ret ?_
       refine hret _ _ ?_
       refine ends (v := .tuple #[]) hA rfl .nil rfl ?_
       refine ⟨rfl, T21, ?_, hM⟩
       rw [← hrun, h6.1, runV_stop (by simpa using hc25)]
       exact hV.mono _ _ _ _ (Nat.zero_le _) hA22
     · refine wp_skip ?_
       refine hK19 _ _ ?_
       refine wp_region_lit ?_
       refine seq_do hA rfl rfl rfl (does_move rfl) ?_
       intro a hA
       refine seq_do hA rfl rfl rfl (does_move rfl) ?_
       intro a hA
       refine seq_do (v := .int .i64 (((p + cq16 : Nat) : Int))) hA rfl rfl rfl (does_bin rfl rfl (ar_add ((in_i64 (by omega) (by omega)).trans (by omega)))) ?_
       intro a hA
       refine seq_do hA rfl rfl rfl (does_assign rfl) ?_
       intro a hA
       refine seq_end ?_
       refine hK8 _ _ _ (by omega) ⟨p + cq16, (step s1 (((p : Nat) : Int)) (cr15)).1, T21, rfl, ⟨hV.mono _ _ _ _ (by omega) hA22, by rw [← hrun, h6.1, runV_go (by simpa using hc25)], h6.2.2⟩, hA.keep _ ⟨rfl, rfl, rfl, rfl, rfl, rfl, rfl, trivial⟩, hM⟩
   · have hb12' := of_decide_eq_false hb12
     refine seq_do (v := .bool false) hA rfl rfl rfl (does_bin rfl rfl (fun w => (bin_lss w).trans (by rw [hb12]))) ?_
     intro a hA
     refine seq_end ?_
     refine hK11 _ _ ?_
     refine wp_cond_false (hA.ev rfl) ?_
     refine wp_exit ?_
     refine hnorm _ _ ?_
     refine ends (v := .tuple #[]) hA rfl .nil rfl ?_
     refine ⟨rfl, T1, ?_, hM⟩
     rw [← hrun, rest16_over (by omega)]
     exact hV.mono _ _ _ _ (Nat.zero_le _) hA1
 · refine seq_call hA rfl rfl rfl (enters_func rfl rfl (fun w => by kernel_rfl)) ((show Calls Try.prog 81 #[.string s, .string ⟨#[254, 255]⟩] _ (fun e w' => e = .returned (.bool false) ∧ w' = w) from (by have h8 := Try.strings_HasPrefix s ⟨#[254, 255]⟩ w; rw [show (⟨#[254, 255]⟩ : ByteArray).data.toList = [254, 255] from rfl, show Lib.hasPrefix s.data.toList [254, 255] = false from hb4] at h8; exact h8))) ?_
   rintro _ w27 ⟨rfl, hb26⟩
   subst hb26
   refine ⟨_, rfl, ?_⟩
   intro a hA
   refine seq_do hA rfl rfl rfl (does_assign rfl) ?_
   intro a hA
   refine seq_end ?_
   refine hK3 _ _ ?_
   refine wp_cond_false (hA.ev rfl) ?_
   refine wp_seq_k (fun K28 hK28 => ?_)
   refine wp_region_lit ?_
   refine seq_do hA rfl rfl rfl (does_move rfl) ?_
   intro a hA
   rcases Bool.eq_false_or_eq_true (Lib.hasPrefix s.data.toList [255, 254]) with hb29 | hb29
   · refine seq_call hA rfl rfl rfl (enters_func rfl rfl (fun w => by kernel_rfl)) ((show Calls Try.prog 81 #[.string s, .string ⟨#[255, 254]⟩] _ (fun e w' => e = .returned (.bool true) ∧ w' = w27) from (by have h8 := Try.strings_HasPrefix s ⟨#[255, 254]⟩ w27; rw [show (⟨#[255, 254]⟩ : ByteArray).data.toList = [255, 254] from rfl, show Lib.hasPrefix s.data.toList [255, 254] = true from hb29] at h8; exact h8))) ?_
     rintro _ w31 ⟨rfl, hb30⟩
     subst hb30
     refine ⟨_, rfl, ?_⟩
     intro a hA
     refine seq_do hA rfl rfl rfl (does_assign rfl) ?_
     intro a hA
     refine seq_end ?_
     refine hK28 _ _ ?_
     refine wp_cond_true (hA.ev rfl) ?_
     refine wp_region_lit ?_
     refine seq_do hA rfl rfl rfl (does_assign rfl) ?_
     intro a hA
     refine seq_do hA rfl rfl rfl (does_assign rfl) ?_
     intro a hA
     refine seq_end ?_
     refine hK2 _ _ ?_
     refine wp_block ?_
     refine wp_loop_n (fun m_ a w1 => ∃ (p : Nat) (s1 : σ) (T1 : List Ck), m_ = s.size - p ∧ (A (s.size - p) s1 T1 ∧ runV step s1 (rest16 lo2 s p) = runV step s0 (unitsW s.data.toList) ∧ p ≤ s.size) ∧ Sl a 34 [(0, .string s), (1, .func (.func f) #[] cs.toArray), (4, .int .i64 (((p : Nat) : Int))), (5, .func (.func 83) #[] #[]), (8, .bool false), (9, .string s), (10, .bool false), (11, .bool true), (12, .string s), (13, .bool true)] ∧ Mg w0 w1 ((X ++ T1))) _ ⟨2, s0, T0, rfl, ⟨hV.mono _ _ _ _ (by omega) hA0, by rw [unitsW_lo hb4 hb29], (by have h5 := prefix_len hb29; rw [size_toList] at h5; exact h5)⟩, hA.keep _ ⟨rfl, rfl, rfl, rfl, rfl, rfl, rfl, rfl, rfl, rfl, trivial⟩, hM⟩ ?_
     clear hM hA
     rintro m_ a w32 ⟨p, s1, T1, rfl, hinv34, hA, hM⟩ K33 hK33
     obtain ⟨hA1, hrun, hp9⟩ := hinv34
     refine wp_seq_k (fun K35 hK35 => ?_)
     refine wp_seq_k (fun K36 hK36 => ?_)
     refine wp_region_lit ?_
     refine seq_do hA rfl rfl rfl (does_move rfl) ?_
     intro a hA
     refine seq_do hA rfl rfl rfl (does_move rfl) ?_
     intro a hA
     refine seq_do (v := .int .i64 (((s.size : Nat) : Int))) hA rfl rfl rfl (does_builtin rfl (len_str Try.underlying9)) ?_
     intro a hA
     rcases Bool.eq_false_or_eq_true (decide (((p : Nat) : Int) < ((s.size : Nat) : Int))) with hb37 | hb37
     · have hb37' := of_decide_eq_true hb37
       refine seq_do (v := .bool true) hA rfl rfl rfl (does_bin rfl rfl (fun w => (bin_lss w).trans (by rw [hb37]))) ?_
       intro a hA
       refine seq_end ?_
       refine hK36 _ _ ?_
       refine wp_cond_true (hA.ev rfl) ?_
       refine wp_skip ?_
       refine hK35 _ _ ?_
       refine wp_block ?_
       refine wp_seq_k (fun K38 hK38 => ?_)
       refine wp_region_lit ?_
       refine seq_do hA rfl rfl rfl (does_move rfl) ?_
       intro a hA
       refine seq_do hA rfl rfl rfl (does_move rfl) ?_
       intro a hA
       refine seq_do (v := .string (s.extract p s.size)) hA rfl rfl rfl (does_sliceFrom Try.underlying9 rfl rfl (by omega)) ?_
       intro a hA
       refine seq_do hA rfl rfl rfl (does_move rfl) ?_
       intro a hA
       obtain ⟨cr40, cq41, he42⟩ : ∃ r q, first16 lo2 (s.data.toList.drop p) = (r, q) := ⟨_, _, rfl⟩
       have h6 := rest16_step (g := lo2) (by omega) he42
       refine seq_call hA rfl rfl rfl (enters_func rfl rfl (fun w => by kernel_rfl)) ((show Calls Try.prog 84 #[.string (s.extract p s.size), .func (.func 83) #[] #[]] _ (fun e w' => e = .returned (.tuple #[.int .i32 cr40, .int .i64 ((cq41 : Nat) : Int)]) ∧ _) from (by have h8 := first16_any (w := w32) (s := s.extract p s.size) lowFirst_num; rw [extract_toList, he42] at h8; exact h8))) ?_
       rintro _ w43 ⟨rfl, hb39⟩
       replace hM := hM.call hb39
       refine ⟨_, rfl, ?_⟩
       intro a hA
       refine seq_do hA rfl rfl rfl (does_move rfl) ?_
       intro a hA
       refine seq_do (v := .int .i32 cr40) hA rfl rfl rfl (does_extract (vs := [.int .i32 cr40, .int .i64 (((cq41 : Nat) : Int))]) rfl rfl) ?_
       intro a hA
       refine seq_do (v := .int .i64 (((cq41 : Nat) : Int))) hA rfl rfl rfl (does_extract (vs := [.int .i32 cr40, .int .i64 (((cq41 : Nat) : Int))]) rfl rfl) ?_
       intro a hA
       refine seq_do hA rfl rfl rfl (does_assign rfl) ?_
       intro a hA
       refine seq_do hA rfl rfl rfl (does_assign rfl) ?_
       intro a hA
       refine seq_end ?_
       refine hK38 _ _ ?_
       refine wp_seq_k (fun K44 hK44 => ?_)
       refine wp_seq_k (fun K45 hK45 => ?_)
       refine wp_region_lit ?_
       refine seq_do hA rfl rfl rfl (does_move rfl) ?_
       intro a hA
       refine seq_do hA rfl rfl rfl (does_move rfl) ?_
       intro a hA
       refine seq_do hA rfl rfl rfl (does_move rfl) ?_
       intro a hA
       have hA1 : A (s.size - p - 1 + 1) s1 T1 := (show s.size - p = s.size - p - 1 + 1 by omega) ▸ hA1
       refine seq_call hA rfl rfl rfl (enters_fn rfl rfl hV.inv) (hV.run (s.size - p - 1) s1 (((p : Nat) : Int)) (cr40) _ (X) T1 hA1 (by have h7 := first16_ok (g := lo2) lowFirst_num.lt (s.data.toList.drop p); rw [he42] at h7; exact h7) hqX hM) ?_
       rintro _ w49 ⟨rfl, T46, hA47, hM48⟩
       replace hM : Mg w0 w49 ((X ++ T46)) := hM48
       refine ⟨_, rfl, ?_⟩
       intro a hA
       refine seq_do (v := .bool (!((step s1 (((p : Nat) : Int)) (cr40)).2))) hA rfl rfl rfl (does_un rfl un_not) ?_
       intro a hA
       refine seq_end ?_
       refine hK45 _ _ ?_
       refine wp_cond_split (t := !((step s1 (((p : Nat) : Int)) (cr40)).2)) (hA.ev rfl) (fun hc50 => ?_) (fun hc50 => ?_)
       · refine wp_ret ?_
         refine hret _ _ ?_
         refine ends (v := .tuple #[]) hA rfl .nil rfl ?_
         refine ⟨rfl, T46, ?_, hM⟩
         rw [← hrun, h6.1, runV_stop (by simpa using hc50)]
         exact hV.mono _ _ _ _ (Nat.zero_le _) hA47
       · refine wp_skip ?_
         refine hK44 _ _ ?_
         refine wp_region_lit ?_
         refine seq_do hA rfl rfl rfl (does_move rfl) ?_
         intro a hA
         refine seq_do hA rfl rfl rfl (does_move rfl) ?_
         intro a hA
         refine seq_do (v := .int .i64 (((p + cq41 : Nat) : Int))) hA rfl rfl rfl (does_bin rfl rfl (ar_add ((in_i64 (by omega) (by omega)).trans (by omega)))) ?_
         intro a hA
         refine seq_do hA rfl rfl rfl (does_assign rfl) ?_
         intro a hA
         refine seq_end ?_
         refine hK33 _ _ _ (by omega) ⟨p + cq41, (step s1 (((p : Nat) : Int)) (cr40)).1, T46, rfl, ⟨hV.mono _ _ _ _ (by omega) hA47, by rw [← hrun, h6.1, runV_go (by simpa using hc50)], h6.2.2⟩, hA.keep _ ⟨rfl, rfl, rfl, rfl, rfl, rfl, rfl, rfl, rfl, rfl, trivial⟩, hM⟩
     · have hb37' := of_decide_eq_false hb37
       refine seq_do (v := .bool false) hA rfl rfl rfl (does_bin rfl rfl (fun w => (bin_lss w).trans (by rw [hb37]))) ?_
       intro a hA
       refine seq_end ?_
       refine hK36 _ _ ?_
       refine wp_cond_false (hA.ev rfl) ?_
       refine wp_exit ?_
       refine hnorm _ _ ?_
       refine ends (v := .tuple #[]) hA rfl .nil rfl ?_
       refine ⟨rfl, T1, ?_, hM⟩
       rw [← hrun, rest16_over (by omega)]
       exact hV.mono _ _ _ _ (Nat.zero_le _) hA1
   · refine seq_call hA rfl rfl rfl (enters_func rfl rfl (fun w => by kernel_rfl)) ((show Calls Try.prog 81 #[.string s, .string ⟨#[255, 254]⟩] _ (fun e w' => e = .returned (.bool false) ∧ w' = w27) from (by have h8 := Try.strings_HasPrefix s ⟨#[255, 254]⟩ w27; rw [show (⟨#[255, 254]⟩ : ByteArray).data.toList = [255, 254] from rfl, show Lib.hasPrefix s.data.toList [255, 254] = false from hb29] at h8; exact h8))) ?_
     rintro _ w52 ⟨rfl, hb51⟩
     subst hb51
     refine ⟨_, rfl, ?_⟩
     intro a hA
     refine seq_do hA rfl rfl rfl (does_assign rfl) ?_
     intro a hA
     refine seq_end ?_
     refine hK28 _ _ ?_
     refine wp_cond_false (hA.ev rfl) ?_
     refine wp_skip ?_
     refine hK2 _ _ ?_
     refine wp_block ?_
     refine wp_loop_n (fun m_ a w1 => ∃ (p : Nat) (s1 : σ) (T1 : List Ck), m_ = s.size - p ∧ (A (s.size - p) s1 T1 ∧ runV step s1 (rest16 hi2 s p) = runV step s0 (unitsW s.data.toList) ∧ p ≤ s.size) ∧ Sl a 34 [(0, .string s), (1, .func (.func f) #[] cs.toArray), (4, .int .i64 (((p : Nat) : Int))), (5, .func (.func 82) #[] #[]), (8, .bool false), (9, .string s), (10, .bool false), (11, .bool false), (12, .string s), (13, .bool false)] ∧ Mg w0 w1 ((X ++ T1))) _ ⟨0, s0, T0, rfl, ⟨hV.mono _ _ _ _ (by omega) hA0, by rw [unitsW_no hb4 hb29], (Nat.zero_le _)⟩, hA.keep _ ⟨rfl, rfl, rfl, rfl, rfl, rfl, rfl, rfl, rfl, rfl, trivial⟩, hM⟩ ?_
     clear hM hA
     rintro m_ a w53 ⟨p, s1, T1, rfl, hinv55, hA, hM⟩ K54 hK54
     obtain ⟨hA1, hrun, hp9⟩ := hinv55
     refine wp_seq_k (fun K56 hK56 => ?_)
     refine wp_seq_k (fun K57 hK57 => ?_)
     refine wp_region_lit ?_
     refine seq_do hA rfl rfl rfl (does_move rfl) ?_
     intro a hA
     refine seq_do hA rfl rfl rfl (does_move rfl) ?_
     intro a hA
     refine seq_do (v := .int .i64 (((s.size : Nat) : Int))) hA rfl rfl rfl (does_builtin rfl (len_str Try.underlying9)) ?_
     intro a hA
     rcases Bool.eq_false_or_eq_true (decide (((p : Nat) : Int) < ((s.size : Nat) : Int))) with hb58 | hb58
     · have hb58' := of_decide_eq_true hb58
       refine seq_do (v := .bool true) hA rfl rfl rfl (does_bin rfl rfl (fun w => (bin_lss w).trans (by rw [hb58]))) ?_
       intro a hA
       refine seq_end ?_
       refine hK57 _ _ ?_
       refine wp_cond_true (hA.ev rfl) ?_
       refine wp_skip ?_
       refine hK56 _ _ ?_
       refine wp_block ?_
       refine wp_seq_k (fun K59 hK59 => ?_)
       refine wp_region_lit ?_
       refine seq_do hA rfl rfl rfl (does_move rfl) ?_
       intro a hA
       refine seq_do hA rfl rfl rfl (does_move rfl) ?_
       intro a hA
       refine seq_do (v := .string (s.extract p s.size)) hA rfl rfl rfl (does_sliceFrom Try.underlying9 rfl rfl (by omega)) ?_
       intro a hA
       refine seq_do hA rfl rfl rfl (does_move rfl) ?_
       intro a hA
       obtain ⟨cr61, cq62, he63⟩ : ∃ r q, first16 hi2 (s.data.toList.drop p) = (r, q) := ⟨_, _, rfl⟩
       have h6 := rest16_step (g := hi2) (by omega) he63
       refine seq_call hA rfl rfl rfl (enters_func rfl rfl (fun w => by kernel_rfl)) ((show Calls Try.prog 84 #[.string (s.extract p s.size), .func (.func 82) #[] #[]] _ (fun e w' => e = .returned (.tuple #[.int .i32 cr61, .int .i64 ((cq62 : Nat) : Int)]) ∧ _) from (by have h8 := first16_any (w := w53) (s := s.extract p s.size) highFirst_num; rw [extract_toList, he63] at h8; exact h8))) ?_
       rintro _ w64 ⟨rfl, hb60⟩
       replace hM := hM.call hb60
       refine ⟨_, rfl, ?_⟩
       intro a hA
       refine seq_do hA rfl rfl rfl (does_move rfl) ?_
       intro a hA
       refine seq_do (v := .int .i32 cr61) hA rfl rfl rfl (does_extract (vs := [.int .i32 cr61, .int .i64 (((cq62 : Nat) : Int))]) rfl rfl) ?_
       intro a hA
       refine seq_do (v := .int .i64 (((cq62 : Nat) : Int))) hA rfl rfl rfl (does_extract (vs := [.int .i32 cr61, .int .i64 (((cq62 : Nat) : Int))]) rfl rfl) ?_
       intro a hA
       refine seq_do hA rfl rfl rfl (does_assign rfl) ?_
       intro a hA
       refine seq_do hA rfl rfl rfl (does_assign rfl) ?_
       intro a hA
       refine seq_end ?_
       refine hK59 _ _ ?_
       refine wp_seq_k (fun K65 hK65 => ?_)
       refine wp_seq_k (fun K66 hK66 => ?_)
       refine wp_region_lit ?_
       refine seq_do hA rfl rfl rfl (does_move rfl) ?_
       intro a hA
       refine seq_do hA rfl rfl rfl (does_move rfl) ?_
       intro a hA
       refine seq_do hA rfl rfl rfl (does_move rfl) ?_
       intro a hA
       have hA1 : A (s.size - p - 1 + 1) s1 T1 := (show s.size - p = s.size - p - 1 + 1 by omega) ▸ hA1
       refine seq_call hA rfl rfl rfl (enters_fn rfl rfl hV.inv) (hV.run (s.size - p - 1) s1 (((p : Nat) : Int)) (cr61) _ (X) T1 hA1 (by have h7 := first16_ok (g := hi2) highFirst_num.lt (s.data.toList.drop p); rw [he63] at h7; exact h7) hqX hM) ?_
       rintro _ w70 ⟨rfl, T67, hA68, hM69⟩
       replace hM : Mg w0 w70 ((X ++ T67)) := hM69
       refine ⟨_, rfl, ?_⟩
       intro a hA
       refine seq_do (v := .bool (!((step s1 (((p : Nat) : Int)) (cr61)).2))) hA rfl rfl rfl (does_un rfl un_not) ?_
       intro a hA
       refine seq_end ?_
       refine hK66 _ _ ?_
       refine wp_cond_split (t := !((step s1 (((p : Nat) : Int)) (cr61)).2)) (hA.ev rfl) (fun hc71 => ?_) (fun hc71 => ?_)
       · refine wp_ret ?_
         refine hret _ _ ?_
         refine ends (v := .tuple #[]) hA rfl .nil rfl ?_
         refine ⟨rfl, T67, ?_, hM⟩
         rw [← hrun, h6.1, runV_stop (by simpa using hc71)]
         exact hV.mono _ _ _ _ (Nat.zero_le _) hA68
       · refine wp_skip ?_
         refine hK65 _ _ ?_
         refine wp_region_lit ?_
         refine seq_do hA rfl rfl rfl (does_move rfl) ?_
         intro a hA
         refine seq_do hA rfl rfl rfl (does_move rfl) ?_
         intro a hA
         refine seq_do (v := .int .i64 (((p + cq62 : Nat) : Int))) hA rfl rfl rfl (does_bin rfl rfl (ar_add ((in_i64 (by omega) (by omega)).trans (by omega)))) ?_
         intro a hA
         refine seq_do hA rfl rfl rfl (does_assign rfl) ?_
         intro a hA
         refine seq_end ?_
         refine hK54 _ _ _ (by omega) ⟨p + cq62, (step s1 (((p : Nat) : Int)) (cr61)).1, T67, rfl, ⟨hV.mono _ _ _ _ (by omega) hA68, by rw [← hrun, h6.1, runV_go (by simpa using hc71)], h6.2.2⟩, hA.keep _ ⟨rfl, rfl, rfl, rfl, rfl, rfl, rfl, rfl, rfl, rfl, trivial⟩, hM⟩
     · have hb58' := of_decide_eq_false hb58
       refine seq_do (v := .bool false) hA rfl rfl rfl (does_bin rfl rfl (fun w => (bin_lss w).trans (by rw [hb58]))) ?_
       intro a hA
       refine seq_end ?_
       refine hK57 _ _ ?_
       refine wp_cond_false (hA.ev rfl) ?_
       refine wp_exit ?_
       refine hnorm _ _ ?_
       refine ends (v := .tuple #[]) hA rfl .nil rfl ?_
       refine ⟨rfl, T1, ?_, hM⟩
       rw [← hrun, rest16_over (by omega)]
       exact hV.mono _ _ _ _ (Nat.zero_le _) hA1
theorem eachUnit_any {w0 w : World} {c : Int} {s : ByteArray} {f : FuncId} {cs : List Value} {σ : Type} {A : Nat → σ → List Ck → Prop} {step : σ → Int → Int → σ × Bool} (hV : Visits Try.prog w0 f cs A step) {s0 : σ} {X T0 : List Ck} (hqX : ∀ d ∈ X, quietC d) (hA0 : A s.size s0 T0) (hM0 : Mg w0 w (X ++ T0)) (hs : s.size ≤ 70000) : Calls Try.prog 34 #[.int .i64 c, .string s, .func (.func f) #[] cs.toArray] w (fun e w' => e = .returned (.tuple #[]) ∧ ∃ T', A 0 (runV step s0 (unitsC c s.data.toList)) T' ∧ Mg w0 w' (X ++ T')) := by
 have hM : Mg w0 w ((X ++ T0)) := hM0
 refine walk_of (l := [(0, .int .i64 c), (1, .string s), (2, .func (.func f) #[] cs.toArray)]) Try.func34 rfl Try.ntmps34 rfl rfl ?_
 intro Q hret hnorm hP a hA
 refine wp_seq_k (fun K1 hK1 => ?_)
 refine wp_region_lit ?_
 refine seq_do hA rfl rfl rfl (does_move rfl) ?_
 intro a hA
 refine seq_end ?_
 refine hK1 _ _ ?_
 refine wp_block ?_
 refine wp_seq_k (fun K2 hK2 => ?_)
 refine wp_region_lit ?_
 rcases Bool.eq_false_or_eq_true ((c == 1)) with hb3 | hb3
 · have hb3' := eq_of_beq hb3
   refine seq_do (v := .bool true) hA rfl rfl rfl (does_bin rfl rfl (fun w => (bin_eql w).trans (by rw [hb3]))) ?_
   intro a hA
   refine seq_do hA rfl rfl rfl (does_assign rfl) ?_
   intro a hA
   refine seq_end ?_
   refine hK2 _ _ ?_
   refine wp_cond_true (hA.ev rfl) ?_
   refine wp_region_lit ?_
   refine seq_do hA rfl rfl rfl (does_move rfl) ?_
   intro a hA
   refine seq_do hA rfl rfl rfl (does_move rfl) ?_
   intro a hA
   refine seq_call hA rfl rfl rfl (enters_func rfl rfl (fun w => by kernel_rfl)) (eachUtf8_any hV hqX hA0 hM) ?_
   rintro _ w7 ⟨rfl, T4, hA5, hM6⟩
   replace hM : Mg w0 w7 ((X ++ T4)) := hM6
   refine ⟨_, rfl, ?_⟩
   intro a hA
   refine seq_end ?_
   refine hnorm _ _ ?_
   refine ends (v := .tuple #[]) hA rfl .nil rfl ?_
   exact ⟨rfl, T4, by unfold unitsC; repeat (first | exact hA5 | rw [if_pos (by omega)] | rw [if_neg (by omega)]), hM⟩
 · have hb3' := ne_of_beq_false hb3
   refine seq_do (v := .bool false) hA rfl rfl rfl (does_bin rfl rfl (fun w => (bin_eql w).trans (by rw [hb3]))) ?_
   intro a hA
   refine seq_do hA rfl rfl rfl (does_assign rfl) ?_
   intro a hA
   refine seq_end ?_
   refine hK2 _ _ ?_
   refine wp_cond_false (hA.ev rfl) ?_
   refine wp_seq_k (fun K8 hK8 => ?_)
   refine wp_region_lit ?_
   rcases Bool.eq_false_or_eq_true ((c == 2)) with hb9 | hb9
   · have hb9' := eq_of_beq hb9
     refine seq_do (v := .bool true) hA rfl rfl rfl (does_bin rfl rfl (fun w => (bin_eql w).trans (by rw [hb9]))) ?_
     intro a hA
     refine seq_do hA rfl rfl rfl (does_assign rfl) ?_
     intro a hA
     refine seq_end ?_
     refine hK8 _ _ ?_
     refine wp_cond_true (hA.ev rfl) ?_
     refine wp_region_lit ?_
     refine seq_do hA rfl rfl rfl (does_move rfl) ?_
     intro a hA
     refine seq_do hA rfl rfl rfl (does_move rfl) ?_
     intro a hA
     refine seq_call hA rfl rfl rfl (enters_func rfl rfl (fun w => by kernel_rfl)) (eachLatin1_any hV hqX hA0 hM hs) ?_
     rintro _ w13 ⟨rfl, T10, hA11, hM12⟩
     replace hM : Mg w0 w13 ((X ++ T10)) := hM12
     refine ⟨_, rfl, ?_⟩
     intro a hA
     refine seq_end ?_
     refine hnorm _ _ ?_
     refine ends (v := .tuple #[]) hA rfl .nil rfl ?_
     exact ⟨rfl, T10, by unfold unitsC; repeat (first | exact hA11 | rw [if_pos (by omega)] | rw [if_neg (by omega)]), hM⟩
   · have hb9' := ne_of_beq_false hb9
     refine seq_do (v := .bool false) hA rfl rfl rfl (does_bin rfl rfl (fun w => (bin_eql w).trans (by rw [hb9]))) ?_
     intro a hA
     refine seq_do hA rfl rfl rfl (does_assign rfl) ?_
     intro a hA
     refine seq_end ?_
     refine hK8 _ _ ?_
     refine wp_cond_false (hA.ev rfl) ?_
     refine wp_seq_k (fun K14 hK14 => ?_)
     refine wp_region_lit ?_
     rcases Bool.eq_false_or_eq_true ((c == 3)) with hb15 | hb15
     · have hb15' := eq_of_beq hb15
       refine seq_do (v := .bool true) hA rfl rfl rfl (does_bin rfl rfl (fun w => (bin_eql w).trans (by rw [hb15]))) ?_
       intro a hA
       refine seq_do hA rfl rfl rfl (does_assign rfl) ?_
       intro a hA
       refine seq_end ?_
       refine hK14 _ _ ?_
       refine wp_cond_true (hA.ev rfl) ?_
       refine wp_region_lit ?_
       refine seq_do hA rfl rfl rfl (does_move rfl) ?_
       intro a hA
       refine seq_do hA rfl rfl rfl (does_move rfl) ?_
       intro a hA
       refine seq_call hA rfl rfl rfl (enters_func rfl rfl (fun w => by kernel_rfl)) (eachUtf16_any hV hqX hA0 hM hs) ?_
       rintro _ w19 ⟨rfl, T16, hA17, hM18⟩
       replace hM : Mg w0 w19 ((X ++ T16)) := hM18
       refine ⟨_, rfl, ?_⟩
       intro a hA
       refine seq_end ?_
       refine hnorm _ _ ?_
       refine ends (v := .tuple #[]) hA rfl .nil rfl ?_
       exact ⟨rfl, T16, by unfold unitsC; repeat (first | exact hA17 | rw [if_pos (by omega)] | rw [if_neg (by omega)]), hM⟩
     · have hb15' := ne_of_beq_false hb15
       refine seq_do (v := .bool false) hA rfl rfl rfl (does_bin rfl rfl (fun w => (bin_eql w).trans (by rw [hb15]))) ?_
       intro a hA
       refine seq_do hA rfl rfl rfl (does_assign rfl) ?_
       intro a hA
       refine seq_end ?_
       refine hK14 _ _ ?_
       refine wp_cond_false (hA.ev rfl) ?_
       refine wp_skip ?_
       refine hnorm _ _ ?_
       refine ends (v := .tuple #[]) hA rfl .nil rfl ?_
       exact ⟨rfl, T0, by unfold unitsC; rw [if_neg (by omega), if_neg (by omega), if_neg (by omega)]; exact hV.mono _ _ _ _ (Nat.zero_le _) hA0, hM⟩
end Go.Proofs.Ytcjgjbaadmohbaa
