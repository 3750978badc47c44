/- Walks of what tells the units of a text or of bytes, one by one. -/
import Derived.Test.YtcjgjbaadmohbaaCoA
import Derived.Test.YtcjgjbaadmohbaaCoU
import Derived.Test.YtcjgjbaadmohbaaShelf
namespace Go.Proofs.Ytcjgjbaadmohbaa
open Go.RowKit
set_option linter.unusedVariables false
set_option linter.unusedSimpArgs false
set_option maxRecDepth 100000

theorem eachUtf8_any {w0 w : World} {s : ByteArray} {f : FuncId} {cs : List Value} {σ : Type} {A : Nat → σ → List Ck → Prop} {step : σ → Int → Int → σ × Bool} (hV : Visits Try.prog w0 f cs A step) {s0 : σ} {X T0 : List Ck} (hqX : ∀ d ∈ X, quietC d) (hA0 : A s.size s0 T0) (hM0 : Mg w0 w (X ++ T0)) : Calls Try.prog 64 #[.string s, .func (.func f) #[] cs.toArray] w (fun e w' => e = .returned (.tuple #[]) ∧ ∃ T', A 0 (runV step s0 (unitsU s.data.toList)) T' ∧ Mg w0 w' (X ++ T')) := by
 have hM : Mg w0 w ((X ++ T0)) := hM0
 refine walk_of (l := [(0, .string s), (1, .func (.func f) #[] cs.toArray)]) Try.func64 rfl Try.ntmps64 rfl rfl ?_
 intro Q hret hnorm hP a hA
 refine wp_seq_k (fun K1 hK1 => ?_)
 refine wp_region_lit ?_
 refine seq_do hA rfl rfl rfl (does_move rfl) ?_
 intro a hA
 refine s_range hA hM rfl Try.underlying9 rfl rfl rfl rfl ?_
 intro g2 w3 hM a hA
 refine seq_end ?_
 refine hK1 _ _ ?_
 refine wp_block ?_
 refine wp_loop_n (fun m_ a w1 => ∃ (p : Nat) (s1 : σ) (T1 : List Ck), m_ = s.size - p ∧ (A (s.size - p) s1 T1 ∧ runV step s1 (unitsR s p) = runV step s0 (unitsU s.data.toList) ∧ p ≤ s.size) ∧ Sl a 26 [(0, .string s), (1, .func (.func f) #[] cs.toArray), (6, .string s), (7, .pointer (some ⟨g2, 0, none⟩))] ∧ Mg w0 w1 (.obj g2 (.stringIter s p) :: (X ++ T1))) _ ⟨0, s0, T0, rfl, ⟨hA0, by rw [unitsR_zero], Nat.zero_le _⟩, hA.keep _ ⟨rfl, rfl, rfl, rfl, trivial⟩, hM⟩ ?_
 clear hM hA
 rintro m_ a w4 ⟨p, s1, T1, rfl, hinv6, hA, hM⟩ K5 hK5
 obtain ⟨hA1, hrun, hp9⟩ := hinv6
 refine wp_seq_k (fun K7 hK7 => ?_)
 refine wp_region_lit ?_
 by_cases hx8 : p < s.size
 · obtain ⟨cr10, cq11, he12⟩ : ∃ r q, Utf8.decode s p = (r, q) := ⟨_, _, rfl⟩
   refine s_next (L' := (.obj g2 (.stringIter s (p + cq11)) :: (X ++ T1))) hA hM rfl rfl 0 rfl hx8 rfl rfl rfl he12 rfl ?_
   intro w9 hM a hA
   refine seq_do (v := .bool true) hA rfl rfl rfl (does_extract (vs := [.bool true, .int .i64 (((p : Nat) : Int)), .int .i32 (((cr10 : Nat) : Int))]) rfl rfl) ?_
   intro a hA
   refine seq_end ?_
   refine hK7 _ _ ?_
   refine wp_seq_k (fun K13 hK13 => ?_)
   refine wp_cond_true (hA.ev rfl) ?_
   refine wp_skip ?_
   refine hK13 _ _ ?_
   refine wp_block ?_
   refine wp_seq_k (fun K14 hK14 => ?_)
   refine wp_region_lit ?_
   refine seq_do (v := .int .i64 (((p : Nat) : Int))) hA rfl rfl rfl (does_extract (vs := [.bool true, .int .i64 (((p : Nat) : Int)), .int .i32 (((cr10 : Nat) : Int))]) rfl rfl) ?_
   intro a hA
   refine seq_do (v := .int .i32 (((cr10 : Nat) : Int))) hA rfl rfl rfl (does_extract (vs := [.bool true, .int .i64 (((p : Nat) : Int)), .int .i32 (((cr10 : Nat) : Int))]) rfl rfl) ?_
   intro a hA
   refine seq_do hA rfl rfl rfl (does_assign rfl) ?_
   intro a hA
   refine seq_do hA rfl rfl rfl (does_assign rfl) ?_
   intro a hA
   refine seq_end ?_
   refine hK14 _ _ ?_
   refine wp_seq_k (fun K15 hK15 => ?_)
   refine wp_seq_k (fun K16 hK16 => ?_)
   refine wp_region_lit ?_
   refine seq_do hA rfl rfl rfl (does_move rfl) ?_
   intro a hA
   rcases Bool.eq_false_or_eq_true ((((cr10 : Nat) : Int) == 65533)) with hb17 | hb17
   · have hb17' := eq_of_beq hb17
     refine seq_do (v := .bool true) hA rfl rfl rfl (does_bin rfl rfl (fun w => (bin_eql w).trans (by rw [hb17]))) ?_
     intro a hA
     refine seq_do hA rfl rfl rfl (does_move rfl) ?_
     intro a hA
     refine seq_do hA rfl rfl rfl (does_move rfl) ?_
     intro a hA
     refine seq_do hA rfl rfl rfl (does_move rfl) ?_
     intro a hA
     refine seq_do (v := .string (s.extract p s.size)) hA rfl rfl rfl (does_sliceFrom Try.underlying9 rfl rfl (by omega)) ?_
     intro a hA
     rcases Bool.eq_false_or_eq_true (decide (cq11 = 3)) with hb18 | hb18
     · have hb18' := of_decide_eq_true hb18
       refine seq_call hA rfl rfl rfl (enters_func rfl rfl (fun w => by kernel_rfl)) ((show Calls Try.prog 81 #[.string (s.extract p s.size), .string ⟨#[239, 191, 189]⟩] _ (fun e w' => e = .returned (.bool true) ∧ w' = _) from (by have h8 := Try.strings_HasPrefix (s.extract p s.size) ⟨#[239, 191, 189]⟩ w9; rw [extract_toList, show (⟨#[239, 191, 189]⟩ : ByteArray).data.toList = [239, 191, 189] from rfl, fffd_at hx8 he12 (by omega), hb18] at h8; exact h8))) ?_
       rintro _ w20 ⟨rfl, hb19⟩
       subst hb19
       refine ⟨_, rfl, ?_⟩
       intro a hA
       refine seq_do (v := .bool false) hA rfl rfl rfl (does_un rfl un_not) ?_
       intro a hA
       refine seq_do (v := .bool false) hA rfl rfl rfl (does_pick rfl rfl rfl rfl) ?_
       intro a hA
       refine seq_end ?_
       refine hK16 _ _ ?_
       refine wp_cond_false (hA.ev rfl) ?_
       refine wp_skip ?_
       refine hK15 _ _ ?_
       refine wp_seq_k (fun K21 hK21 => ?_)
       refine wp_region_lit ?_
       refine seq_do hA rfl rfl rfl (does_move rfl) ?_
       intro a hA
       refine seq_do hA rfl rfl rfl (does_move rfl) ?_
       intro a hA
       refine seq_do hA rfl rfl rfl (does_move rfl) ?_
       intro a hA
       have hA1 : A (s.size - p - 1 + 1) s1 T1 := (show s.size - p = s.size - p - 1 + 1 by omega) ▸ hA1
       refine seq_call hA rfl rfl rfl (enters_fn rfl rfl hV.inv) (hV.run (s.size - p - 1) s1 (((p : Nat) : Int)) (((cr10 : Nat) : Int)) _ (.obj g2 (.stringIter s (p + cq11)) :: X) T1 hA1 (by have h7 := uR_ok he12; unfold uR at h7; rw [if_neg (by omega)] at h7; exact h7) (quietL_cons (quiet_iter _ _) hqX) hM) ?_
       rintro _ w25 ⟨rfl, T22, hA23, hM24⟩
       replace hM : Mg w0 w25 (.obj g2 (.stringIter s (p + cq11)) :: (X ++ T22)) := hM24
       refine ⟨_, rfl, ?_⟩
       intro a hA
       refine seq_do (v := .bool (!((step s1 (((p : Nat) : Int)) (((cr10 : Nat) : Int))).2))) hA rfl rfl rfl (does_un rfl un_not) ?_
       intro a hA
       refine seq_end ?_
       refine hK21 _ _ ?_
       refine wp_cond_split (t := !((step s1 (((p : Nat) : Int)) (((cr10 : Nat) : Int))).2)) (hA.ev rfl) (fun hc26 => ?_) (fun hc26 => ?_)
       · refine wp_ret ?_
         refine hret _ _ ?_
         refine ends (v := .tuple #[]) hA rfl .nil rfl ?_
         have h6 := unitsR_step hx8 he12
         have h5 : uR cr10 cq11 = ((cr10 : Nat) : Int) := by unfold uR; rw [if_neg (by omega)]
         rw [h5] at h6
         refine ⟨rfl, T22, ?_, hM.sub (List.sublist_cons_self _ _)⟩
         rw [← hrun, h6.1, runV_stop (by simpa using hc26)]
         exact hV.mono _ _ _ _ (Nat.zero_le _) hA23
       · refine wp_skip ?_
         have h6 := unitsR_step hx8 he12
         have h5 : uR cr10 cq11 = ((cr10 : Nat) : Int) := by unfold uR; rw [if_neg (by omega)]
         rw [h5] at h6
         refine hK5 _ _ _ (by omega) ⟨p + cq11, (step s1 (((p : Nat) : Int)) (((cr10 : Nat) : Int))).1, T22, rfl, ⟨hV.mono _ _ _ _ (by omega) hA23, by rw [← hrun, h6.1, runV_go (by simpa using hc26)], h6.2.2⟩, hA.keep _ ⟨rfl, rfl, rfl, rfl, trivial⟩, hM⟩
     · have hb18' := of_decide_eq_false hb18
       refine seq_call hA rfl rfl rfl (enters_func rfl rfl (fun w => by kernel_rfl)) ((show Calls Try.prog 81 #[.string (s.extract p s.size), .string ⟨#[239, 191, 189]⟩] _ (fun e w' => e = .returned (.bool false) ∧ w' = _) from (by have h8 := Try.strings_HasPrefix (s.extract p s.size) ⟨#[239, 191, 189]⟩ w9; rw [extract_toList, show (⟨#[239, 191, 189]⟩ : ByteArray).data.toList = [239, 191, 189] from rfl, fffd_at hx8 he12 (by omega), hb18] at h8; exact h8))) ?_
       rintro _ w28 ⟨rfl, hb27⟩
       subst hb27
       refine ⟨_, rfl, ?_⟩
       intro a hA
       refine seq_do (v := .bool true) hA rfl rfl rfl (does_un rfl un_not) ?_
       intro a hA
       refine seq_do (v := .bool true) hA rfl rfl rfl (does_pick rfl rfl rfl rfl) ?_
       intro a hA
       refine seq_end ?_
       refine hK16 _ _ ?_
       refine wp_cond_true (hA.ev rfl) ?_
       refine wp_region_lit ?_
       refine seq_do hA rfl rfl rfl (does_assign rfl) ?_
       intro a hA
       refine seq_end ?_
       refine hK15 _ _ ?_
       refine wp_seq_k (fun K29 hK29 => ?_)
       refine wp_region_lit ?_
       refine seq_do hA rfl rfl rfl (does_move rfl) ?_
       intro a hA
       refine seq_do hA rfl rfl rfl (does_move rfl) ?_
       intro a hA
       refine seq_do hA rfl rfl rfl (does_move rfl) ?_
       intro a hA
       have hA1 : A (s.size - p - 1 + 1) s1 T1 := (show s.size - p = s.size - p - 1 + 1 by omega) ▸ hA1
       refine seq_call hA rfl rfl rfl (enters_fn rfl rfl hV.inv) (hV.run (s.size - p - 1) s1 (((p : Nat) : Int)) (-1) _ (.obj g2 (.stringIter s (p + cq11)) :: X) T1 hA1 (.inl rfl) (quietL_cons (quiet_iter _ _) hqX) hM) ?_
       rintro _ w33 ⟨rfl, T30, hA31, hM32⟩
       replace hM : Mg w0 w33 (.obj g2 (.stringIter s (p + cq11)) :: (X ++ T30)) := hM32
       refine ⟨_, rfl, ?_⟩
       intro a hA
       refine seq_do (v := .bool (!((step s1 (((p : Nat) : Int)) (-1)).2))) hA rfl rfl rfl (does_un rfl un_not) ?_
       intro a hA
       refine seq_end ?_
       refine hK29 _ _ ?_
       refine wp_cond_split (t := !((step s1 (((p : Nat) : Int)) (-1)).2)) (hA.ev rfl) (fun hc34 => ?_) (fun hc34 => ?_)
       · refine wp_ret ?_
         refine hret _ _ ?_
         refine ends (v := .tuple #[]) hA rfl .nil rfl ?_
         have h6 := unitsR_step hx8 he12
         have h5 : uR cr10 cq11 = -1 := by unfold uR; rw [if_pos (by omega)]
         rw [h5] at h6
         refine ⟨rfl, T30, ?_, hM.sub (List.sublist_cons_self _ _)⟩
         rw [← hrun, h6.1, runV_stop (by simpa using hc34)]
         exact hV.mono _ _ _ _ (Nat.zero_le _) hA31
       · refine wp_skip ?_
         have h6 := unitsR_step hx8 he12
         have h5 : uR cr10 cq11 = -1 := by unfold uR; rw [if_pos (by omega)]
         rw [h5] at h6
         refine hK5 _ _ _ (by omega) ⟨p + cq11, (step s1 (((p : Nat) : Int)) (-1)).1, T30, rfl, ⟨hV.mono _ _ _ _ (by omega) hA31, by rw [← hrun, h6.1, runV_go (by simpa using hc34)], h6.2.2⟩, hA.keep _ ⟨rfl, rfl, rfl, rfl, trivial⟩, hM⟩
   · have hb17' := ne_of_beq_false hb17
     refine seq_do (v := .bool false) hA rfl rfl rfl (does_bin rfl rfl (fun w => (bin_eql w).trans (by rw [hb17]))) ?_
     intro a hA
     refine seq_do hA rfl rfl rfl (does_move rfl) ?_
     intro a hA
     refine seq_skip hA rfl rfl rfl ?_
     intro a hA
     refine seq_skip hA rfl rfl rfl ?_
     intro a hA
     refine seq_skip hA rfl rfl rfl ?_
     intro a hA
     refine seq_skip hA rfl rfl rfl ?_
     intro a hA
     refine seq_skip hA rfl rfl rfl ?_
     intro a hA
     refine seq_do (v := .bool false) hA rfl rfl rfl (does_pick rfl rfl rfl rfl) ?_
     intro a hA
     refine seq_end ?_
     refine hK16 _ _ ?_
     refine wp_cond_false (hA.ev rfl) ?_
     refine wp_skip ?_
     refine hK15 _ _ ?_
     refine wp_seq_k (fun K35 hK35 => ?_)
     refine wp_region_lit ?_
     refine seq_do hA rfl rfl rfl (does_move rfl) ?_
     intro a hA
     refine seq_do hA rfl rfl rfl (does_move rfl) ?_
     intro a hA
     refine seq_do hA rfl rfl rfl (does_move rfl) ?_
     intro a hA
     have hA1 : A (s.size - p - 1 + 1) s1 T1 := (show s.size - p = s.size - p - 1 + 1 by omega) ▸ hA1
     refine seq_call hA rfl rfl rfl (enters_fn rfl rfl hV.inv) (hV.run (s.size - p - 1) s1 (((p : Nat) : Int)) (((cr10 : Nat) : Int)) _ (.obj g2 (.stringIter s (p + cq11)) :: X) T1 hA1 (by have h7 := uR_ok he12; unfold uR at h7; rw [if_neg (by omega)] at h7; exact h7) (quietL_cons (quiet_iter _ _) hqX) hM) ?_
     rintro _ w39 ⟨rfl, T36, hA37, hM38⟩
     replace hM : Mg w0 w39 (.obj g2 (.stringIter s (p + cq11)) :: (X ++ T36)) := hM38
     refine ⟨_, rfl, ?_⟩
     intro a hA
     refine seq_do (v := .bool (!((step s1 (((p : Nat) : Int)) (((cr10 : Nat) : Int))).2))) hA rfl rfl rfl (does_un rfl un_not) ?_
     intro a hA
     refine seq_end ?_
     refine hK35 _ _ ?_
     refine wp_cond_split (t := !((step s1 (((p : Nat) : Int)) (((cr10 : Nat) : Int))).2)) (hA.ev rfl) (fun hc40 => ?_) (fun hc40 => ?_)
     · refine wp_ret ?_
       refine hret _ _ ?_
       refine ends (v := .tuple #[]) hA rfl .nil rfl ?_
       have h6 := unitsR_step hx8 he12
       have h5 : uR cr10 cq11 = ((cr10 : Nat) : Int) := by unfold uR; rw [if_neg (by omega)]
       rw [h5] at h6
       refine ⟨rfl, T36, ?_, hM.sub (List.sublist_cons_self _ _)⟩
       rw [← hrun, h6.1, runV_stop (by simpa using hc40)]
       exact hV.mono _ _ _ _ (Nat.zero_le _) hA37
     · refine wp_skip ?_
       have h6 := unitsR_step hx8 he12
       have h5 : uR cr10 cq11 = ((cr10 : Nat) : Int) := by unfold uR; rw [if_neg (by omega)]
       rw [h5] at h6
       refine hK5 _ _ _ (by omega) ⟨p + cq11, (step s1 (((p : Nat) : Int)) (((cr10 : Nat) : Int))).1, T36, rfl, ⟨hV.mono _ _ _ _ (by omega) hA37, by rw [← hrun, h6.1, runV_go (by simpa using hc40)], h6.2.2⟩, hA.keep _ ⟨rfl, rfl, rfl, rfl, trivial⟩, hM⟩
 · refine s_over hA hM rfl rfl 0 rfl hx8 rfl rfl rfl ?_
   intro a hA
   refine seq_do (v := .bool false) hA rfl rfl rfl (does_extract (vs := [.bool false]) rfl rfl) ?_
   intro a hA
   refine seq_end ?_
   refine hK7 _ _ ?_
   refine wp_seq_k (fun K41 hK41 => ?_)
   refine wp_cond_false (hA.ev rfl) ?_
   refine wp_exit ?_
   refine hnorm _ _ ?_
   refine ends (v := .tuple #[]) hA rfl .nil rfl ?_
   refine ⟨rfl, T1, ?_, hM.sub (List.sublist_cons_self _ _)⟩
   rw [← hrun, unitsR_over hx8]
   exact hV.mono _ _ _ _ (Nat.zero_le _) hA1
end Go.Proofs.Ytcjgjbaadmohbaa
