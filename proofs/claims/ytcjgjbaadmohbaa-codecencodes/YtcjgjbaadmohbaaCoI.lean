/- Walks of the line ends of what is written. -/
import Derived.Test.YtcjgjbaadmohbaaCoH
import Derived.Test.YtcjgjbaadmohbaaCoX
namespace Go.Proofs.Ytcjgjbaadmohbaa
open Go.RowKit
set_option linter.unusedVariables false
set_option linter.unusedSimpArgs false
set_option maxRecDepth 100000
theorem CoI_is1_62 : Is1 Try.prog 62 := ⟨⟨_, Try.underlying62, rfl⟩, by kernel_rfl⟩
theorem CoI_is1_9 : Is1 Try.prog 9 := ⟨⟨_, Try.underlying9, rfl⟩, by kernel_rfl⟩
theorem ends1_any {w0 w : World} {gv gd n : Nat} {en : ByteArray} {at_ r : Int} {f : FuncId} {cs : List Value} {σ : Type} {A : Nat → σ → List Ck → Prop} {step : σ → Int → Int → σ × Bool} (hV : Visits Try.prog w0 f cs A step) {s0 : σ} {X T0 : List Ck} (hqX : ∀ d ∈ X, quietC d) (hA0 : A (3 * n + 2 + 1) s0 T0) (hen : en.size ≤ 3) (hr : OkU r) (hM0 : Mg w0 w ([.obj gv (.cells #[.func (.func f) #[] cs.toArray] 62), .obj gd (.cells #[.string en] 9)] ++ (X ++ T0))) : Calls Try.prog 72 #[.int .i64 at_, .int .i32 r, .pointer (some ⟨gv, 0, none⟩), .pointer (some ⟨gd, 0, none⟩)] w (fun e w' => e = .returned (.bool (estep step (charsL en.data.toList) s0 at_ r).2) ∧ ∃ T', A (3 * n) (estep step (charsL en.data.toList) s0 at_ r).1 T' ∧ Mg w0 w' ([.obj gv (.cells #[.func (.func f) #[] cs.toArray] 62), .obj gd (.cells #[.string en] 9)] ++ (X ++ T'))) := by
 have hM : Mg w0 w (.obj gv (.cells #[.func (.func f) #[] cs.toArray] 62) :: .obj gd (.cells #[.string en] 9) :: (X ++ T0)) := hM0
 refine walk_of (l := [(0, .int .i64 at_), (1, .int .i32 r), (2, .pointer (some ⟨gv, 0, none⟩)), (3, .pointer (some ⟨gd, 0, none⟩))]) Try.func72 rfl Try.ntmps72 rfl rfl ?_
 intro Q hret hnorm hP a hA
 refine wp_seq_k (fun K1 hK1 => ?_)
 refine wp_region_lit ?_
 refine seq_do hA rfl rfl rfl (does_assign rfl) ?_
 intro a hA
 refine seq_end ?_
 refine hK1 _ _ ?_
 refine wp_seq_k (fun K2 hK2 => ?_)
 refine wp_seq_k (fun K3 hK3 => ?_)
 refine wp_region_lit ?_
 refine seq_do hA rfl rfl rfl (does_move rfl) ?_
 intro a hA
 rcases Bool.eq_false_or_eq_true ((r != 10)) with hb4 | hb4
 · have hb4' := bne_iff_ne.1 hb4
   refine seq_do (v := .bool true) hA rfl rfl rfl (does_bin rfl rfl (fun w => (bin_neq w).trans (by rw [hb4]))) ?_
   intro a hA
   refine seq_end ?_
   refine hK3 _ _ ?_
   refine wp_cond_true (hA.ev rfl) ?_
   refine wp_seq_k (fun K5 hK5 => ?_)
   refine wp_region_lit ?_
   refine seq_do hA rfl rfl rfl (m_load1 hM CoI_is1_62 rfl 0 rfl rfl) ?_
   intro a hA
   refine seq_do hA rfl rfl rfl (does_move rfl) ?_
   intro a hA
   refine seq_do hA rfl rfl rfl (does_move rfl) ?_
   intro a hA
   refine seq_call hA rfl rfl rfl (enters_fn rfl rfl hV.inv) (hV.run (3 * n + 2) s0 (at_) (r) _ (.obj gv (.cells #[.func (.func f) #[] cs.toArray] 62) :: .obj gd (.cells #[.string en] 9) :: X) T0 hA0 hr (quietL_cons (quiet_cells (by decide)) (quietL_cons (quiet_cells (by decide)) hqX)) hM) ?_
   rintro _ w9 ⟨rfl, T6, hA7, hM8⟩
   replace hM : Mg w0 w9 (.obj gv (.cells #[.func (.func f) #[] cs.toArray] 62) :: .obj gd (.cells #[.string en] 9) :: (X ++ T6)) := hM8
   refine ⟨_, rfl, ?_⟩
   intro a hA
   refine seq_do hA rfl rfl rfl (does_assign rfl) ?_
   intro a hA
   refine seq_end ?_
   refine hK5 _ _ ?_
   refine wp_ret ?_
   refine hret _ _ ?_
   refine ends (v := .bool ((step s0 (at_) (r)).2)) hA rfl (.cons (res_tmp rfl) .nil) rfl ?_
   rw [show (estep step (charsL en.data.toList) s0 at_ r) = step s0 at_ r from by unfold estep; rw [if_neg (by omega)]]
   exact ⟨rfl, T6, hV.mono _ _ _ _ (by omega) hA7, hM⟩
 · have hb4' := bne_eq_false_iff_eq.1 hb4
   refine seq_do (v := .bool false) hA rfl rfl rfl (does_bin rfl rfl (fun w => (bin_neq w).trans (by rw [hb4]))) ?_
   intro a hA
   refine seq_end ?_
   refine hK3 _ _ ?_
   refine wp_cond_false (hA.ev rfl) ?_
   refine wp_skip ?_
   refine hK2 _ _ ?_
   refine wp_seq_k (fun K10 hK10 => ?_)
   refine wp_seq_k (fun K11 hK11 => ?_)
   refine wp_region_lit ?_
   refine seq_do hA rfl rfl rfl (m_load1 hM CoI_is1_9 rfl 1 rfl rfl) ?_
   intro a hA
   refine s_range hA hM rfl Try.underlying9 rfl rfl rfl rfl ?_
   intro g12 w13 hM a hA
   refine seq_end ?_
   refine hK11 _ _ ?_
   refine wp_block ?_
   refine wp_loop_n (fun m_ a w1 => ∃ (p : Nat) (s1 : σ) (T1 : List Ck), m_ = en.size - p ∧ (A (3 * n + (en.size - p)) s1 T1 ∧ runE step at_ s1 (charsR en p) = runE step at_ s0 (charsL en.data.toList) ∧ p ≤ en.size) ∧ Sl a 25 [(0, .int .i64 at_), (1, .int .i32 r), (2, .pointer (some ⟨gv, 0, none⟩)), (3, .pointer (some ⟨gd, 0, none⟩)), (9, .int .i32 r), (10, .bool false), (15, .string en), (16, .pointer (some ⟨g12, 0, none⟩))] ∧ Mg w0 w1 (.obj g12 (.stringIter en p) :: .obj gv (.cells #[.func (.func f) #[] cs.toArray] 62) :: .obj gd (.cells #[.string en] 9) :: (X ++ T1))) _ ⟨0, s0, T0, rfl, ⟨hV.mono _ _ _ _ (by omega) hA0, by rw [charsR_zero], Nat.zero_le _⟩, hA.keep _ ⟨rfl, rfl, rfl, rfl, rfl, rfl, rfl, rfl, trivial⟩, hM⟩ ?_
   clear hM hA
   rintro m_ a w14 ⟨p, s1, T1, rfl, hinv16, hA, hM⟩ K15 hK15
   obtain ⟨hA1, hrun, hp9⟩ := hinv16
   refine wp_seq_k (fun K17 hK17 => ?_)
   refine wp_region_lit ?_
   by_cases hx18 : p < en.size
   · obtain ⟨cr20, cq21, he22⟩ : ∃ r q, Utf8.decode en p = (r, q) := ⟨_, _, rfl⟩
     refine s_next (L' := (.obj g12 (.stringIter en (p + cq21)) :: .obj gv (.cells #[.func (.func f) #[] cs.toArray] 62) :: .obj gd (.cells #[.string en] 9) :: (X ++ T1))) hA hM rfl rfl 0 rfl hx18 rfl rfl rfl he22 rfl ?_
     intro w19 hM a hA
     refine seq_do (v := .bool true) hA rfl rfl rfl (does_extract (vs := [.bool true, .int .i64 (((p : Nat) : Int)), .int .i32 (((cr20 : Nat) : Int))]) rfl rfl) ?_
     intro a hA
     refine seq_end ?_
     refine hK17 _ _ ?_
     refine wp_seq_k (fun K23 hK23 => ?_)
     refine wp_cond_true (hA.ev rfl) ?_
     refine wp_skip ?_
     refine hK23 _ _ ?_
     refine wp_block ?_
     refine wp_seq_k (fun K24 hK24 => ?_)
     refine wp_region_lit ?_
     refine seq_do (v := .int .i32 (((cr20 : Nat) : Int))) hA rfl rfl rfl (does_extract (vs := [.bool true, .int .i64 (((p : Nat) : Int)), .int .i32 (((cr20 : Nat) : Int))]) rfl rfl) ?_
     intro a hA
     refine seq_do hA rfl rfl rfl (does_assign rfl) ?_
     intro a hA
     refine seq_end ?_
     refine hK24 _ _ ?_
     refine wp_seq_k (fun K25 hK25 => ?_)
     refine wp_region_lit ?_
     refine seq_do hA rfl rfl rfl (m_load1 hM CoI_is1_62 rfl 1 rfl rfl) ?_
     intro a hA
     refine seq_do hA rfl rfl rfl (does_move rfl) ?_
     intro a hA
     refine seq_do hA rfl rfl rfl (does_move rfl) ?_
     intro a hA
     have hA1 : A (3 * n + (en.size - p - 1) + 1) s1 T1 := (show 3 * n + (en.size - p) = 3 * n + (en.size - p - 1) + 1 by omega) ▸ hA1
     refine seq_call hA rfl rfl rfl (enters_fn rfl rfl hV.inv) (hV.run (3 * n + (en.size - p - 1)) s1 (at_) (((cr20 : Nat) : Int)) _ (.obj g12 (.stringIter en (p + cq21)) :: .obj gv (.cells #[.func (.func f) #[] cs.toArray] 62) :: .obj gd (.cells #[.string en] 9) :: X) T1 hA1 (char_ok he22) (quietL_cons (quiet_iter _ _) (quietL_cons (quiet_cells (by decide)) (quietL_cons (quiet_cells (by decide)) hqX))) hM) ?_
     rintro _ w29 ⟨rfl, T26, hA27, hM28⟩
     replace hM : Mg w0 w29 (.obj g12 (.stringIter en (p + cq21)) :: .obj gv (.cells #[.func (.func f) #[] cs.toArray] 62) :: .obj gd (.cells #[.string en] 9) :: (X ++ T26)) := hM28
     refine ⟨_, rfl, ?_⟩
     intro a hA
     refine seq_do (v := .bool (!((step s1 (at_) (((cr20 : Nat) : Int))).2))) hA rfl rfl rfl (does_un rfl un_not) ?_
     intro a hA
     refine seq_end ?_
     refine hK25 _ _ ?_
     refine wp_cond_split (t := !((step s1 (at_) (((cr20 : Nat) : Int))).2)) (hA.ev rfl) (fun hc30 => ?_) (fun hc30 => ?_)
     · refine wp_seq_k (fun K31 hK31 => ?_)
       refine wp_region_lit ?_
       refine seq_do hA rfl rfl rfl (does_assign rfl) ?_
       intro a hA
       refine seq_end ?_
       refine hK31 _ _ ?_
       refine wp_ret ?_
       refine hret _ _ ?_
       refine ends (v := .bool false) hA rfl (.cons (res_tmp rfl) .nil) rfl ?_
       rw [show (estep step (charsL en.data.toList) s0 at_ r) = runE step at_ s0 (charsL en.data.toList) from by unfold estep; rw [if_pos (by omega)]]
       rw [← hrun, charsR_step hx18 he22, runE_stop (by simpa using hc30)]
       exact ⟨rfl, T26, hV.mono _ _ _ _ (by omega) hA27, (hM.sub (.cons _ (.refl _)))⟩
     · refine wp_skip ?_
       have h6 := unitsR_step hx18 he22
       refine hK15 _ _ _ (by omega) ⟨p + cq21, (step s1 (at_) (((cr20 : Nat) : Int))).1, T26, rfl, ⟨hV.mono _ _ _ _ (by omega) hA27, by rw [← hrun, charsR_step hx18 he22, runE_go (by simpa using hc30)], h6.2.2⟩, hA.keep _ ⟨rfl, rfl, rfl, rfl, rfl, rfl, rfl, rfl, trivial⟩, hM⟩
   · refine s_over hA hM rfl rfl 0 rfl hx18 rfl rfl rfl ?_
     intro a hA
     refine seq_do (v := .bool false) hA rfl rfl rfl (does_extract (vs := [.bool false]) rfl rfl) ?_
     intro a hA
     refine seq_end ?_
     refine hK17 _ _ ?_
     refine wp_seq_k (fun K32 hK32 => ?_)
     refine wp_cond_false (hA.ev rfl) ?_
     refine wp_exit ?_
     refine hK10 _ _ ?_
     refine wp_seq_k (fun K33 hK33 => ?_)
     refine wp_region_lit ?_
     refine seq_do hA rfl rfl rfl (does_assign rfl) ?_
     intro a hA
     refine seq_end ?_
     refine hK33 _ _ ?_
     refine wp_ret ?_
     refine hret _ _ ?_
     refine ends (v := .bool true) hA rfl (.cons (res_tmp rfl) .nil) rfl ?_
     rw [show (estep step (charsL en.data.toList) s0 at_ r) = runE step at_ s0 (charsL en.data.toList) from by unfold estep; rw [if_pos (by omega)]]
     rw [← hrun, charsR_over hx18]
     exact ⟨rfl, T1, hV.mono _ _ _ _ (by omega) hA1, (hM.sub (.cons _ (.refl _)))⟩
def Ae {σ : Type} (A : Nat → σ → List Ck → Prop) (gv gd : Nat) (f : FuncId) (cs : List Value) (en : ByteArray) (n : Nat) (s : σ) (T : List Ck) : Prop := ∃ T1, A (3 * n) s T1 ∧ T = [.obj gv (.cells #[.func (.func f) #[] cs.toArray] 62), .obj gd (.cells #[.string en] 9)] ++ T1
theorem ends_visits {w0 : World} {gv gd : Nat} {en : ByteArray} (hen : en.size ≤ 3) {f : FuncId} {cs : List Value} {σ : Type} {A : Nat → σ → List Ck → Prop} {step : σ → Int → Int → σ × Bool} (hV : Visits Try.prog w0 f cs A step) : Visits Try.prog w0 72 [.pointer (some ⟨gv, 0, none⟩), .pointer (some ⟨gd, 0, none⟩)] (Ae A gv gd f cs en) (estep step (charsL en.data.toList)) := by
  refine ⟨fun us w => by kernel_rfl, fun n m s T h ⟨T1, h1, h2⟩ => ⟨T1, hV.mono _ _ _ _ (by omega) h1, h2⟩, ?_⟩
  rintro n s at_ r w X T ⟨T1, hA1, rfl⟩ hr hqX hM
  refine (ends1_any (n := n) hV hqX hA1 hen hr (hM.perm (perm_in X _ T1))).mono ?_
  rintro e w' ⟨rfl, T', hA', hM'⟩
  exact ⟨rfl, _, ⟨T', hA', rfl⟩, hM'.perm (perm_in _ X T')⟩
theorem withEnds_any {w0 w : World} {s en : ByteArray} (hen : en.size ≤ 3) {f : FuncId} {cs : List Value} {σ : Type} {A : Nat → σ → List Ck → Prop} {step : σ → Int → Int → σ × Bool} (hV : Visits Try.prog w0 f cs A step) {s0 : σ} {X T0 : List Ck} (hqX : ∀ d ∈ X, quietC d) (hA0 : A (3 * s.size) s0 T0) (hM0 : Mg w0 w (X ++ T0)) : Calls Try.prog 43 #[.string s, .string en, .func (.func f) #[] cs.toArray] w (fun e w' => e = .returned (.tuple #[]) ∧ ∃ T', A 0 (runV step s0 (expand (charsL en.data.toList) (unitsU s.data.toList))) T' ∧ Mg w0 w' (X ++ T')) := by
 have hM : Mg w0 w ((X ++ T0)) := hM0
 refine walk_of (l := [(0, .string s), (1, .string en), (2, .func (.func f) #[] cs.toArray)]) Try.func43 rfl Try.ntmps43 rfl rfl ?_
 intro Q hret hnorm hP a hA
 refine wp_seq_k (fun K1 hK1 => ?_)
 refine wp_region_lit ?_
 refine s_new (vs := [.string en]) (t := 9) hA hM rfl rfl rfl (fun g => .pointer (some ⟨g, 0, none⟩)) (does_box rfl rfl) (by decide) ?_
 intro g2 w3 hM a hA
 refine s_new (vs := [.func (.func f) #[] cs.toArray]) (t := 62) hA hM rfl rfl rfl (fun g => .pointer (some ⟨g, 0, none⟩)) (does_box rfl rfl) (by decide) ?_
 intro g4 w5 hM a hA
 refine seq_end ?_
 refine hK1 _ _ ?_
 refine wp_region_lit ?_
 refine seq_do hA rfl rfl rfl (does_move rfl) ?_
 intro a hA
 refine seq_do (v := .func (.func 72) #[] [.pointer (some ⟨g4, 0, none⟩), .pointer (some ⟨g2, 0, none⟩)].toArray) hA rfl rfl rfl (does_makeFunc rfl) ?_
 intro a hA
 refine seq_call hA rfl rfl rfl (enters_func rfl rfl (fun w => by kernel_rfl)) (eachUtf8_any (ends_visits (gv := g4) (gd := g2) hen hV) hqX (T0 := ([.obj g4 (.cells #[.func (.func f) #[] cs.toArray] 62), .obj g2 (.cells #[.string en] 9)] : List Ck) ++ T0) ⟨T0, hA0, rfl⟩ (hM.perm (perm_in X [.obj g4 (.cells #[.func (.func f) #[] cs.toArray] 62), .obj g2 (.cells #[.string en] 9)] T0).symm)) ?_
 rintro _ w11 ⟨rfl, T6, hA7, hM8⟩
 rw [runV_expand] at hA7
 obtain ⟨T9, hA10, rfl⟩ := hA7
 replace hM : Mg w0 w11 (.obj g4 (.cells #[.func (.func f) #[] cs.toArray] 62) :: .obj g2 (.cells #[.string en] 9) :: (X ++ T9)) := (hM8.perm (perm_in X [.obj g4 (.cells #[.func (.func f) #[] cs.toArray] 62), .obj g2 (.cells #[.string en] 9)] T9))
 refine ⟨_, rfl, ?_⟩
 intro a hA
 refine seq_end ?_
 refine hnorm _ _ ?_
 refine ends (v := .tuple #[]) hA rfl .nil rfl ?_
 exact ⟨rfl, T9, hA10, hM.sub (.cons _ (.cons _ (.refl _)))⟩
end Go.Proofs.Ytcjgjbaadmohbaa
