/- The walk of CodecBack. -/
import Derived.Test.YtkngmgddjjefnaaCoR
import Derived.Test.YtkngmgddjjefnaaCoS
namespace Go.Proofs.Ytkngmgddjjefnaa
open Go.RowKit
set_option linter.unusedVariables false
set_option linter.unusedSimpArgs false
set_option maxRecDepth 100000
theorem CoT_is1_3 : Is1 Try.prog 3 := ⟨⟨_, Try.underlying3, rfl⟩, by kernel_rfl⟩
theorem CoT_fld_23_0 : FieldAt Try.prog 23 0 0 := ⟨_, _, Try.underlying23, rfl, rfl, by kernel_rfl⟩
theorem CoT_fld_23_1 : FieldAt Try.prog 23 1 1 := ⟨_, _, Try.underlying23, rfl, rfl, by kernel_rfl⟩
theorem CoT_fld_23_2 : FieldAt Try.prog 23 2 2 := ⟨_, _, Try.underlying23, rfl, rfl, by kernel_rfl⟩
theorem CoT_isS_23 : IsS Try.prog 23 3 := ⟨⟨_, Try.underlying23⟩, by kernel_rfl⟩
theorem decode_back {w : World} {c k m : Int} {so : Option Addr} {cap : Nat} {l : List UInt8} {s : ByteArray} (hb : Rb w so l) (h : decS c k m l = (s.data.toList, 0, 0)) : Calls Try.prog 9 #[.agg #[.int .i64 c, .int .i64 k, .int .i64 m], .slice so l.length cap] w fun e w' => e = .returned (.tuple #[.string s, .int .i64 0, .int .i64 0]) ∧ Below w.heap.size w w' := by
  have h1 := decode_any (c := c) (k := k) (m := m) (cap := cap) hb rfl
  rw [h, show (⟨(s.data.toList, (0 : Int), (0 : Int)).1.toArray⟩ : ByteArray) = s from by simp] at h1
  exact h1
def goodK (k : Int) (l : List Int) : Prop := k ≠ 0 → ∀ r ∈ l, r ≠ 13 ∧ r ≠ 133 ∧ r ≠ 8232
def headK (c : Int) (l : List Int) : Prop := c = 3 → ∀ r, l.head? = some r → r ≠ 65279 ∧ r ≠ 65534
theorem good_step {k : Int} {s : ByteArray} {p r q : Nat} (h : p < s.size) (e : Utf8.decode s p = (r, q)) (hk : k ≠ 0 → (r : Int) ≠ 13 ∧ (r : Int) ≠ 133 ∧ (r : Int) ≠ 8232) (g : goodK k (charsR s (p + q))) : goodK k (charsR s p) := by
  intro h0 x hx
  rw [charsR_step h e] at hx
  rcases List.mem_cons.1 hx with rfl | hx
  · exact hk h0
  · exact g h0 x hx
theorem head_first {c : Int} {s : ByteArray} {p r q : Nat} (hp : p = 0) (h : p < s.size) (e : Utf8.decode s p = (r, q)) (hk : c = 3 → (r : Int) ≠ 65279 ∧ (r : Int) ≠ 65534) : headK c (charsL s.data.toList) := by
  subst hp
  intro h3 x hx
  rw [← charsR_zero, charsR_step h e] at hx
  cases hx
  exact hk h3
theorem good_end {k : Int} {s : ByteArray} {p : Nat} (h : ¬ p < s.size) : goodK k (charsR s p) := by
  rw [charsR_over h]
  intro _ r hr
  cases hr
theorem head_end {c : Int} {s : ByteArray} {p : Nat} {fb : Bool} (h : ¬ p < s.size) (h1 : fb = true → p = 0) (h2 : fb = false → headK c (charsL s.data.toList)) : headK c (charsL s.data.toList) := by
  cases fb with
  | false => exact h2 rfl
  | true =>
    obtain rfl := h1 rfl
    intro _ r hr
    rw [← charsR_zero, charsR_over h] at hr
    cases hr
theorem back_any {w : World} {c k md : Int} {s : ByteArray} : Calls Try.prog 5 #[.agg #[.int .i64 c, .int .i64 k, .int .i64 md], .string s] w fun e w' => e = .returned (.bool true) ∧ Below w.heap.size w w' := by
 have hM : Mg w w ([]) := Mg.start w
 refine walk_of (l := [(0, .agg #[.int .i64 c, .int .i64 k, .int .i64 md]), (1, .string s)]) Try.func5 rfl Try.ntmps5 rfl rfl ?_
 intro Q hret hnorm hP a hA
 refine wp_seq_k (fun K1 hK1 => ?_)
 refine wp_region_lit ?_
 refine s_new (vs := [.int .i64 c, .int .i64 k, .int .i64 md]) (t := 23) hA hM rfl rfl rfl (fun g => .pointer (some ⟨g, 0, none⟩)) (does_box rfl rfl) (by decide) ?_
 intro g2 w3 hM a hA
 refine seq_do hA rfl rfl rfl (does_assign rfl) ?_
 intro a hA
 refine seq_end ?_
 refine hK1 _ _ ?_
 refine wp_seq_k (fun K4 hK4 => ?_)
 refine wp_region_lit ?_
 refine seq_do (v := .pointer (some ⟨g2, 2, none⟩)) hA rfl rfl rfl (does_field CoT_fld_23_2 rfl rfl) ?_
 intro a hA
 refine s_store (us := [.int .i64 c, .int .i64 k, .int .i64 0]) (L' := (.obj g2 (.cells #[.int .i64 c, .int .i64 k, .int .i64 0] 23) :: [])) hA hM rfl rfl (m_store rfl rfl rfl (by kernel_rfl) hM 0 rfl rfl rfl) 0 rfl rfl rfl ?_
 intro w5 hM
 refine seq_end ?_
 refine hK4 _ _ ?_
 refine wp_seq_k (fun K6 hK6 => ?_)
 refine wp_region_lit ?_
 refine seq_do hA rfl rfl rfl (m_loadS hM CoT_isS_23 rfl 0 rfl (cs := [.int .i64 c, .int .i64 k, .int .i64 0]) rfl rfl) ?_
 intro a hA
 refine seq_do hA rfl rfl rfl (does_move rfl) ?_
 intro a hA
 refine seq_call hA rfl rfl rfl (enters_func rfl rfl (fun w => by kernel_rfl)) (encode_any (c := c) (k := k) (m := 0) (s := s) rfl) ?_
 rintro _ w12 ⟨v7, rfl, hn8, hM9⟩
 obtain ⟨so10, ca11, rfl⟩ := owns_slice (hM9.has 0 rfl)
 replace hM : Mg w w12 (.row BY 1 (.slice so10 ((encS c k 0 s).1.length) ca11) ((encS c k 0 s).1.length) ((Lib.byteCells (encS c k 0 s).1)) :: .obj g2 (.cells #[.int .i64 c, .int .i64 k, .int .i64 0] 23) :: []) := (hM.both hM9 (noBld_cons (by simp) (noBld_quiet quietL_nil)) (noBld_cons (by simp) (noBld_quiet quietL_nil)))
 refine ⟨_, rfl, ?_⟩
 intro a hA
 refine seq_do hA rfl rfl rfl (does_move rfl) ?_
 intro a hA
 refine seq_do (v := .slice so10 ((encS c k 0 s).1.length) ca11) hA rfl rfl rfl (does_extract (vs := [.slice so10 ((encS c k 0 s).1.length) ca11, .int .i64 ((encS c k 0 s).2.1), .int .i64 ((encS c k 0 s).2.2)]) rfl rfl) ?_
 intro a hA
 refine seq_do (v := .int .i64 ((encS c k 0 s).2.1)) hA rfl rfl rfl (does_extract (vs := [.slice so10 ((encS c k 0 s).1.length) ca11, .int .i64 ((encS c k 0 s).2.1), .int .i64 ((encS c k 0 s).2.2)]) rfl rfl) ?_
 intro a hA
 refine seq_do (v := .int .i64 ((encS c k 0 s).2.2)) hA rfl rfl rfl (does_extract (vs := [.slice so10 ((encS c k 0 s).1.length) ca11, .int .i64 ((encS c k 0 s).2.1), .int .i64 ((encS c k 0 s).2.2)]) rfl rfl) ?_
 intro a hA
 refine seq_do hA rfl rfl rfl (does_assign rfl) ?_
 intro a hA
 refine seq_do hA rfl rfl rfl (does_assign rfl) ?_
 intro a hA
 refine seq_do hA rfl rfl rfl (does_assign rfl) ?_
 intro a hA
 refine seq_end ?_
 refine hK6 _ _ ?_
 refine wp_seq_k (fun K13 hK13 => ?_)
 refine wp_seq_k (fun K14 hK14 => ?_)
 refine wp_region_lit ?_
 refine seq_call hA rfl rfl rfl (enters_func rfl rfl (fun w => by kernel_rfl)) (awake_any) ?_
 rintro _ w16 ⟨rfl, hb15⟩
 replace hM := hM.call hb15
 refine ⟨_, rfl, ?_⟩
 intro a hA
 refine seq_do (v := .bool false) hA rfl rfl rfl (does_un rfl un_not) ?_
 intro a hA
 refine seq_do hA rfl rfl rfl (does_move rfl) ?_
 intro a hA
 refine seq_do hA rfl rfl rfl (does_move rfl) ?_
 intro a hA
 rcases Bool.eq_false_or_eq_true (((encS c k 0 s).2.2 != 0)) with hb17 | hb17
 · have hb17' := bne_iff_ne.1 hb17
   refine seq_do (v := .bool true) hA rfl rfl rfl (does_bin rfl rfl (fun w => (bin_neq w).trans (by rw [hb17]))) ?_
   intro a hA
   refine seq_do (v := .bool true) hA rfl rfl rfl (does_pick rfl rfl rfl rfl) ?_
   intro a hA
   refine seq_do hA rfl rfl rfl (does_move rfl) ?_
   intro a hA
   refine seq_skip hA rfl rfl rfl ?_
   intro a hA
   refine seq_skip hA rfl rfl rfl ?_
   intro a hA
   refine seq_skip hA rfl rfl rfl ?_
   intro a hA
   refine seq_do (v := .bool true) hA rfl rfl rfl (does_pick rfl rfl rfl rfl) ?_
   intro a hA
   refine seq_end ?_
   refine hK14 _ _ ?_
   refine wp_cond_true (hA.ev rfl) ?_
   refine wp_seq_k (fun K18 hK18 => ?_)
   refine wp_region_lit ?_
   refine seq_call hA rfl rfl rfl (enters_func rfl rfl (fun w => by kernel_rfl)) (awake_any) ?_
   rintro _ w20 ⟨rfl, hb19⟩
   replace hM := hM.call hb19
   refine ⟨_, rfl, ?_⟩
   intro a hA
   refine seq_do hA rfl rfl rfl (does_assign rfl) ?_
   intro a hA
   refine seq_end ?_
   refine hK18 _ _ ?_
   refine wp_ret ?_
   refine hret _ _ ?_
   refine ends (v := .bool true) hA rfl (.cons (res_tmp rfl) .nil) rfl ?_
   exact ⟨rfl, hM.bel⟩
 · have hb17' := bne_eq_false_iff_eq.1 hb17
   refine seq_do (v := .bool false) hA rfl rfl rfl (does_bin rfl rfl (fun w => (bin_neq w).trans (by rw [hb17]))) ?_
   intro a hA
   refine seq_do (v := .bool false) hA rfl rfl rfl (does_pick rfl rfl rfl rfl) ?_
   intro a hA
   refine seq_do hA rfl rfl rfl (does_move rfl) ?_
   intro a hA
   refine seq_do hA rfl rfl rfl (does_move rfl) ?_
   intro a hA
   refine seq_do (v := .int .i64 ((((encS c k 0 s).1.length : Nat) : Int))) hA rfl rfl rfl (does_len Try.underlying24 rfl) ?_
   intro a hA
   rcases Bool.eq_false_or_eq_true (decide (65536 < (((encS c k 0 s).1.length : Nat) : Int))) with hb21 | hb21
   · have hb21' := of_decide_eq_true hb21
     refine seq_do (v := .bool true) hA rfl rfl rfl (does_bin rfl rfl (fun w => (bin_gtr w).trans (by rw [hb21]))) ?_
     intro a hA
     refine seq_do (v := .bool true) hA rfl rfl rfl (does_pick rfl rfl rfl rfl) ?_
     intro a hA
     refine seq_end ?_
     refine hK14 _ _ ?_
     refine wp_cond_true (hA.ev rfl) ?_
     refine wp_seq_k (fun K22 hK22 => ?_)
     refine wp_region_lit ?_
     refine seq_call hA rfl rfl rfl (enters_func rfl rfl (fun w => by kernel_rfl)) (awake_any) ?_
     rintro _ w24 ⟨rfl, hb23⟩
     replace hM := hM.call hb23
     refine ⟨_, rfl, ?_⟩
     intro a hA
     refine seq_do hA rfl rfl rfl (does_assign rfl) ?_
     intro a hA
     refine seq_end ?_
     refine hK22 _ _ ?_
     refine wp_ret ?_
     refine hret _ _ ?_
     refine ends (v := .bool true) hA rfl (.cons (res_tmp rfl) .nil) rfl ?_
     exact ⟨rfl, hM.bel⟩
   · have hb21' := of_decide_eq_false hb21
     refine seq_do (v := .bool false) hA rfl rfl rfl (does_bin rfl rfl (fun w => (bin_gtr w).trans (by rw [hb21]))) ?_
     intro a hA
     refine seq_do (v := .bool false) hA rfl rfl rfl (does_pick rfl rfl rfl rfl) ?_
     intro a hA
     refine seq_end ?_
     refine hK14 _ _ ?_
     refine wp_cond_false (hA.ev rfl) ?_
     refine wp_skip ?_
     refine hK13 _ _ ?_
     refine wp_seq_k (fun K25 hK25 => ?_)
     refine wp_region_lit ?_
     refine seq_do hA rfl rfl rfl (does_assign rfl) ?_
     intro a hA
     refine seq_end ?_
     refine hK25 _ _ ?_
     refine wp_seq_k (fun K26 hK26 => ?_)
     refine wp_seq_k (fun K27 hK27 => ?_)
     refine wp_region_lit ?_
     refine seq_do hA rfl rfl rfl (does_move rfl) ?_
     intro a hA
     refine s_range hA hM rfl Try.underlying9 rfl rfl rfl rfl ?_
     intro g28 w29 hM a hA
     refine seq_end ?_
     refine hK27 _ _ ?_
     refine wp_block ?_
     refine wp_loop_n (fun m a w1 => ∃ (p : Nat) (fb : Bool), m = s.size - p ∧ ((goodK k (charsR s p) → goodK k (charsL s.data.toList)) ∧ (fb = true → p = 0) ∧ (fb = false → headK c (charsL s.data.toList)) ∧ p ≤ s.size) ∧ Sl a 84 [(0, .agg #[.int .i64 c, .int .i64 k, .int .i64 md]), (1, .string s), (2, .pointer (some ⟨g2, 0, none⟩)), (5, .slice so10 ((encS c k 0 s).1.length) ca11), (6, .int .i64 ((encS c k 0 s).2.1)), (7, .int .i64 ((encS c k 0 s).2.2)), (8, .bool fb), (14, .pointer (some ⟨g2, 2, none⟩)), (15, .tuple #[.slice so10 ((encS c k 0 s).1.length) ca11, .int .i64 ((encS c k 0 s).2.1), .int .i64 ((encS c k 0 s).2.2)]), (16, .agg #[.int .i64 c, .int .i64 k, .int .i64 0]), (17, .string s), (18, .tuple #[.slice so10 ((encS c k 0 s).1.length) ca11, .int .i64 ((encS c k 0 s).2.1), .int .i64 ((encS c k 0 s).2.2)]), (19, .slice so10 ((encS c k 0 s).1.length) ca11), (20, .int .i64 ((encS c k 0 s).2.1)), (21, .int .i64 ((encS c k 0 s).2.2)), (22, .bool true), (23, .bool false), (24, .bool false), (25, .int .i64 ((encS c k 0 s).2.2)), (26, .bool false), (27, .bool false), (28, .bool false), (29, .slice so10 ((encS c k 0 s).1.length) ca11), (30, .int .i64 ((((encS c k 0 s).1.length : Nat) : Int))), (31, .bool false), (32, .bool false), (34, .string s), (35, .pointer (some ⟨g28, 0, none⟩))] ∧ Mg w w1 (.obj g28 (.stringIter s p) :: .row BY 1 (.slice so10 ((encS c k 0 s).1.length) ca11) ((encS c k 0 s).1.length) ((Lib.byteCells (encS c k 0 s).1)) :: .obj g2 (.cells #[.int .i64 c, .int .i64 k, .int .i64 0] 23) :: [])) _ ⟨0, true, rfl, ⟨fun g => by rw [charsR_zero] at g; exact g, fun _ => rfl, fun h => (by cases h), Nat.zero_le _⟩, hA.keep _ ⟨rfl, rfl, rfl, rfl, rfl, rfl, rfl, rfl, rfl, rfl, rfl, rfl, rfl, rfl, rfl, rfl, rfl, rfl, rfl, rfl, rfl, rfl, rfl, rfl, rfl, rfl, rfl, rfl, trivial⟩, hM⟩ ?_
     clear hM hA
     rintro m a w30 ⟨p, fb, rfl, hinv32, hA, hM⟩ K31 hK31
     obtain ⟨hgood, hfirst, hhead, hp9⟩ := hinv32
     refine wp_seq_k (fun K33 hK33 => ?_)
     refine wp_region_lit ?_
     by_cases hx34 : p < s.size
     · obtain ⟨cr36, cq37, he38⟩ : ∃ r q, Utf8.decode s p = (r, q) := ⟨_, _, rfl⟩
       refine s_next (L' := (.obj g28 (.stringIter s (p + cq37)) :: .row BY 1 (.slice so10 ((encS c k 0 s).1.length) ca11) ((encS c k 0 s).1.length) ((Lib.byteCells (encS c k 0 s).1)) :: .obj g2 (.cells #[.int .i64 c, .int .i64 k, .int .i64 0] 23) :: [])) hA hM rfl rfl 0 rfl hx34 rfl rfl rfl he38 rfl ?_
       intro w35 hM a hA
       refine seq_do (v := .bool true) hA rfl rfl rfl (does_extract (vs := [.bool true, .int .i64 (((p : Nat) : Int)), .int .i32 (((cr36 : Nat) : Int))]) rfl rfl) ?_
       intro a hA
       refine seq_end ?_
       refine hK33 _ _ ?_
       refine wp_seq_k (fun K39 hK39 => ?_)
       refine wp_cond_true (hA.ev rfl) ?_
       refine wp_skip ?_
       refine hK39 _ _ ?_
       refine wp_block ?_
       refine wp_seq_k (fun K40 hK40 => ?_)
       refine wp_region_lit ?_
       refine seq_do (v := .int .i32 (((cr36 : Nat) : Int))) hA rfl rfl rfl (does_extract (vs := [.bool true, .int .i64 (((p : Nat) : Int)), .int .i32 (((cr36 : Nat) : Int))]) rfl rfl) ?_
       intro a hA
       refine seq_do hA rfl rfl rfl (does_assign rfl) ?_
       intro a hA
       refine seq_end ?_
       refine hK40 _ _ ?_
       refine wp_seq_k (fun K41 hK41 => ?_)
       refine wp_seq_k (fun K42 hK42 => ?_)
       refine wp_region_lit ?_
       refine seq_do (v := .pointer (some ⟨g2, 1, none⟩)) hA rfl rfl rfl (does_field CoT_fld_23_1 rfl rfl) ?_
       intro a hA
       refine seq_do hA rfl rfl rfl (m_load1 hM CoT_is1_3 rfl 2 rfl rfl) ?_
       intro a hA
       rcases Bool.eq_false_or_eq_true ((k != 0)) with hb43 | hb43
       · have hb43' := bne_iff_ne.1 hb43
         refine seq_do (v := .bool true) hA rfl rfl rfl (does_bin rfl rfl (fun w => (bin_neq w).trans (by rw [hb43]))) ?_
         intro a hA
         refine seq_do hA rfl rfl rfl (does_move rfl) ?_
         intro a hA
         refine seq_do hA rfl rfl rfl (does_move rfl) ?_
         intro a hA
         rcases Bool.eq_false_or_eq_true ((((cr36 : Nat) : Int) == 13)) with hb44 | hb44
         · have hb44' := eq_of_beq hb44
           refine seq_do (v := .bool true) hA rfl rfl rfl (does_bin rfl rfl (fun w => (bin_eql w).trans (by rw [hb44]))) ?_
           intro a hA
           refine seq_do hA rfl rfl rfl (does_move rfl) ?_
           intro a hA
           refine seq_skip hA rfl rfl rfl ?_
           intro a hA
           refine seq_skip hA rfl rfl rfl ?_
           intro a hA
           refine seq_do (v := .bool true) hA rfl rfl rfl (does_pick rfl rfl rfl rfl) ?_
           intro a hA
           refine seq_do hA rfl rfl rfl (does_move rfl) ?_
           intro a hA
           refine seq_skip hA rfl rfl rfl ?_
           intro a hA
           refine seq_skip hA rfl rfl rfl ?_
           intro a hA
           refine seq_do (v := .bool true) hA rfl rfl rfl (does_pick rfl rfl rfl rfl) ?_
           intro a hA
           refine seq_do (v := .bool true) hA rfl rfl rfl (does_pick rfl rfl rfl rfl) ?_
           intro a hA
           refine seq_do hA rfl rfl rfl (does_move rfl) ?_
           intro a hA
           refine seq_skip hA rfl rfl rfl ?_
           intro a hA
           refine seq_skip hA rfl rfl rfl ?_
           intro a hA
           refine seq_skipU hA rfl rfl rfl ?_
           intro a hA
           refine seq_skipU hA rfl rfl rfl ?_
           intro a hA
           refine seq_skipU hA rfl rfl rfl ?_
           intro a hA
           refine seq_skip hA rfl rfl rfl ?_
           intro a hA
           refine seq_skip hA rfl rfl rfl ?_
           intro a hA
           refine seq_skipU hA rfl rfl rfl ?_
           intro a hA
           refine seq_skipU hA rfl rfl rfl ?_
           intro a hA
           refine seq_skipU hA rfl rfl rfl ?_
           intro a hA
           refine seq_skipU hA rfl rfl rfl ?_
           intro a hA
           refine seq_skipU hA rfl rfl rfl ?_
           intro a hA
           refine seq_skipU hA rfl rfl rfl ?_
           intro a hA
           refine seq_skip hA rfl rfl rfl ?_
           intro a hA
           refine seq_do (v := .bool true) hA rfl rfl rfl (does_pick rfl rfl rfl rfl) ?_
           intro a hA
           refine seq_end ?_
           refine hK42 _ _ ?_
           refine wp_cond_true (hA.ev rfl) ?_
           refine wp_seq_k (fun K45 hK45 => ?_)
           refine wp_region_lit ?_
           refine seq_do hA rfl rfl rfl (does_assign rfl) ?_
           intro a hA
           refine seq_end ?_
           refine hK45 _ _ ?_
           refine wp_ret ?_
           refine hret _ _ ?_
           refine ends (v := .bool true) hA rfl (.cons (res_tmp rfl) .nil) rfl ?_
           exact ⟨rfl, hM.bel⟩
         · have hb44' := ne_of_beq_false hb44
           refine seq_do (v := .bool false) hA rfl rfl rfl (does_bin rfl rfl (fun w => (bin_eql w).trans (by rw [hb44]))) ?_
           intro a hA
           refine seq_do hA rfl rfl rfl (does_move rfl) ?_
           intro a hA
           refine seq_do hA rfl rfl rfl (does_move rfl) ?_
           intro a hA
           rcases Bool.eq_false_or_eq_true ((((cr36 : Nat) : Int) == 133)) with hb46 | hb46
           · have hb46' := eq_of_beq hb46
             refine seq_do (v := .bool true) hA rfl rfl rfl (does_bin rfl rfl (fun w => (bin_eql w).trans (by rw [hb46]))) ?_
             intro a hA
             refine seq_do (v := .bool true) hA rfl rfl rfl (does_pick rfl rfl rfl rfl) ?_
             intro a hA
             refine seq_do hA rfl rfl rfl (does_move rfl) ?_
             intro a hA
             refine seq_skip hA rfl rfl rfl ?_
             intro a hA
             refine seq_skip hA rfl rfl rfl ?_
             intro a hA
             refine seq_do (v := .bool true) hA rfl rfl rfl (does_pick rfl rfl rfl rfl) ?_
             intro a hA
             refine seq_do (v := .bool true) hA rfl rfl rfl (does_pick rfl rfl rfl rfl) ?_
             intro a hA
             refine seq_do hA rfl rfl rfl (does_move rfl) ?_
             intro a hA
             refine seq_skip hA rfl rfl rfl ?_
             intro a hA
             refine seq_skip hA rfl rfl rfl ?_
             intro a hA
             refine seq_skipU hA rfl rfl rfl ?_
             intro a hA
             refine seq_skipU hA rfl rfl rfl ?_
             intro a hA
             refine seq_skipU hA rfl rfl rfl ?_
             intro a hA
             refine seq_skip hA rfl rfl rfl ?_
             intro a hA
             refine seq_skip hA rfl rfl rfl ?_
             intro a hA
             refine seq_skipU hA rfl rfl rfl ?_
             intro a hA
             refine seq_skipU hA rfl rfl rfl ?_
             intro a hA
             refine seq_skipU hA rfl rfl rfl ?_
             intro a hA
             refine seq_skipU hA rfl rfl rfl ?_
             intro a hA
             refine seq_skipU hA rfl rfl rfl ?_
             intro a hA
             refine seq_skipU hA rfl rfl rfl ?_
             intro a hA
             refine seq_skip hA rfl rfl rfl ?_
             intro a hA
             refine seq_do (v := .bool true) hA rfl rfl rfl (does_pick rfl rfl rfl rfl) ?_
             intro a hA
             refine seq_end ?_
             refine hK42 _ _ ?_
             refine wp_cond_true (hA.ev rfl) ?_
             refine wp_seq_k (fun K47 hK47 => ?_)
             refine wp_region_lit ?_
             refine seq_do hA rfl rfl rfl (does_assign rfl) ?_
             intro a hA
             refine seq_end ?_
             refine hK47 _ _ ?_
             refine wp_ret ?_
             refine hret _ _ ?_
             refine ends (v := .bool true) hA rfl (.cons (res_tmp rfl) .nil) rfl ?_
             exact ⟨rfl, hM.bel⟩
           · have hb46' := ne_of_beq_false hb46
             refine seq_do (v := .bool false) hA rfl rfl rfl (does_bin rfl rfl (fun w => (bin_eql w).trans (by rw [hb46]))) ?_
             intro a hA
             refine seq_do (v := .bool false) hA rfl rfl rfl (does_pick rfl rfl rfl rfl) ?_
             intro a hA
             refine seq_do hA rfl rfl rfl (does_move rfl) ?_
             intro a hA
             refine seq_do hA rfl rfl rfl (does_move rfl) ?_
             intro a hA
             rcases Bool.eq_false_or_eq_true ((((cr36 : Nat) : Int) == 8232)) with hb48 | hb48
             · have hb48' := eq_of_beq hb48
               refine seq_do (v := .bool true) hA rfl rfl rfl (does_bin rfl rfl (fun w => (bin_eql w).trans (by rw [hb48]))) ?_
               intro a hA
               refine seq_do (v := .bool true) hA rfl rfl rfl (does_pick rfl rfl rfl rfl) ?_
               intro a hA
               refine seq_do (v := .bool true) hA rfl rfl rfl (does_pick rfl rfl rfl rfl) ?_
               intro a hA
               refine seq_do hA rfl rfl rfl (does_move rfl) ?_
               intro a hA
               refine seq_skip hA rfl rfl rfl ?_
               intro a hA
               refine seq_skip hA rfl rfl rfl ?_
               intro a hA
               refine seq_skipU hA rfl rfl rfl ?_
               intro a hA
               refine seq_skipU hA rfl rfl rfl ?_
               intro a hA
               refine seq_skipU hA rfl rfl rfl ?_
               intro a hA
               refine seq_skip hA rfl rfl rfl ?_
               intro a hA
               refine seq_skip hA rfl rfl rfl ?_
               intro a hA
               refine seq_skipU hA rfl rfl rfl ?_
               intro a hA
               refine seq_skipU hA rfl rfl rfl ?_
               intro a hA
               refine seq_skipU hA rfl rfl rfl ?_
               intro a hA
               refine seq_skipU hA rfl rfl rfl ?_
               intro a hA
               refine seq_skipU hA rfl rfl rfl ?_
               intro a hA
               refine seq_skipU hA rfl rfl rfl ?_
               intro a hA
               refine seq_skip hA rfl rfl rfl ?_
               intro a hA
               refine seq_do (v := .bool true) hA rfl rfl rfl (does_pick rfl rfl rfl rfl) ?_
               intro a hA
               refine seq_end ?_
               refine hK42 _ _ ?_
               refine wp_cond_true (hA.ev rfl) ?_
               refine wp_seq_k (fun K49 hK49 => ?_)
               refine wp_region_lit ?_
               refine seq_do hA rfl rfl rfl (does_assign rfl) ?_
               intro a hA
               refine seq_end ?_
               refine hK49 _ _ ?_
               refine wp_ret ?_
               refine hret _ _ ?_
               refine ends (v := .bool true) hA rfl (.cons (res_tmp rfl) .nil) rfl ?_
               exact ⟨rfl, hM.bel⟩
             · have hb48' := ne_of_beq_false hb48
               refine seq_do (v := .bool false) hA rfl rfl rfl (does_bin rfl rfl (fun w => (bin_eql w).trans (by rw [hb48]))) ?_
               intro a hA
               refine seq_do (v := .bool false) hA rfl rfl rfl (does_pick rfl rfl rfl rfl) ?_
               intro a hA
               refine seq_do (v := .bool false) hA rfl rfl rfl (does_pick rfl rfl rfl rfl) ?_
               intro a hA
               refine seq_do hA rfl rfl rfl (does_move rfl) ?_
               intro a hA
               refine seq_do hA rfl rfl rfl (does_move rfl) ?_
               intro a hA
               refine seq_do hA rfl rfl rfl (does_move rfl) ?_
               intro a hA
               rcases fb with _ | _
               · refine seq_skip hA rfl rfl rfl ?_
                 intro a hA
                 refine seq_skip hA rfl rfl rfl ?_
                 intro a hA
                 refine seq_skip hA rfl rfl rfl ?_
                 intro a hA
                 refine seq_do (v := .bool false) hA rfl rfl rfl (does_pick rfl rfl rfl rfl) ?_
                 intro a hA
                 refine seq_do hA rfl rfl rfl (does_move rfl) ?_
                 intro a hA
                 refine seq_skip hA rfl rfl rfl ?_
                 intro a hA
                 refine seq_skip hA rfl rfl rfl ?_
                 intro a hA
                 refine seq_skip hA rfl rfl rfl ?_
                 intro a hA
                 refine seq_skipU hA rfl rfl rfl ?_
                 intro a hA
                 refine seq_skipU hA rfl rfl rfl ?_
                 intro a hA
                 refine seq_skip hA rfl rfl rfl ?_
                 intro a hA
                 refine seq_do (v := .bool false) hA rfl rfl rfl (does_pick rfl rfl rfl rfl) ?_
                 intro a hA
                 refine seq_do (v := .bool false) hA rfl rfl rfl (does_pick rfl rfl rfl rfl) ?_
                 intro a hA
                 refine seq_end ?_
                 refine hK42 _ _ ?_
                 refine wp_cond_false (hA.ev rfl) ?_
                 refine wp_skip ?_
                 refine hK41 _ _ ?_
                 refine wp_region_lit ?_
                 refine seq_do hA rfl rfl rfl (does_assign rfl) ?_
                 intro a hA
                 refine seq_end ?_
                 have h6 := unitsR_step hx34 he38
                 refine hK31 _ _ _ (by omega) ⟨p + cq37, false, rfl, ⟨fun g => hgood (good_step hx34 he38 (fun h3 => by omega) g), fun h3 => (by cases h3), fun _ => hhead rfl, h6.2.2⟩, hA.keep _ ⟨rfl, rfl, rfl, rfl, rfl, rfl, rfl, rfl, rfl, rfl, rfl, rfl, rfl, rfl, rfl, rfl, rfl, rfl, rfl, rfl, rfl, rfl, rfl, rfl, rfl, rfl, rfl, rfl, trivial⟩, hM⟩
               · refine seq_do (v := .pointer (some ⟨g2, 0, none⟩)) hA rfl rfl rfl (does_field CoT_fld_23_0 rfl rfl) ?_
                 intro a hA
                 refine seq_do hA rfl rfl rfl (m_load1 hM CoT_is1_3 rfl 2 rfl rfl) ?_
                 intro a hA
                 rcases Bool.eq_false_or_eq_true ((c == 3)) with hb50 | hb50
                 · have hb50' := eq_of_beq hb50
                   refine seq_do (v := .bool true) hA rfl rfl rfl (does_bin rfl rfl (fun w => (bin_eql w).trans (by rw [hb50]))) ?_
                   intro a hA
                   refine seq_do (v := .bool true) hA rfl rfl rfl (does_pick rfl rfl rfl rfl) ?_
                   intro a hA
                   refine seq_do hA rfl rfl rfl (does_move rfl) ?_
                   intro a hA
                   refine seq_do hA rfl rfl rfl (does_move rfl) ?_
                   intro a hA
                   rcases Bool.eq_false_or_eq_true ((((cr36 : Nat) : Int) == 65279)) with hb51 | hb51
                   · have hb51' := eq_of_beq hb51
                     refine seq_do (v := .bool true) hA rfl rfl rfl (does_bin rfl rfl (fun w => (bin_eql w).trans (by rw [hb51]))) ?_
                     intro a hA
                     refine seq_do hA rfl rfl rfl (does_move rfl) ?_
                     intro a hA
                     refine seq_skip hA rfl rfl rfl ?_
                     intro a hA
                     refine seq_skip hA rfl rfl rfl ?_
                     intro a hA
                     refine seq_do (v := .bool true) hA rfl rfl rfl (does_pick rfl rfl rfl rfl) ?_
                     intro a hA
                     refine seq_do (v := .bool true) hA rfl rfl rfl (does_pick rfl rfl rfl rfl) ?_
                     intro a hA
                     refine seq_do (v := .bool true) hA rfl rfl rfl (does_pick rfl rfl rfl rfl) ?_
                     intro a hA
                     refine seq_end ?_
                     refine hK42 _ _ ?_
                     refine wp_cond_true (hA.ev rfl) ?_
                     refine wp_seq_k (fun K52 hK52 => ?_)
                     refine wp_region_lit ?_
                     refine seq_do hA rfl rfl rfl (does_assign rfl) ?_
                     intro a hA
                     refine seq_end ?_
                     refine hK52 _ _ ?_
                     refine wp_ret ?_
                     refine hret _ _ ?_
                     refine ends (v := .bool true) hA rfl (.cons (res_tmp rfl) .nil) rfl ?_
                     exact ⟨rfl, hM.bel⟩
                   · have hb51' := ne_of_beq_false hb51
                     refine seq_do (v := .bool false) hA rfl rfl rfl (does_bin rfl rfl (fun w => (bin_eql w).trans (by rw [hb51]))) ?_
                     intro a hA
                     refine seq_do hA rfl rfl rfl (does_move rfl) ?_
                     intro a hA
                     refine seq_do hA rfl rfl rfl (does_move rfl) ?_
                     intro a hA
                     rcases Bool.eq_false_or_eq_true ((((cr36 : Nat) : Int) == 65534)) with hb53 | hb53
                     · have hb53' := eq_of_beq hb53
                       refine seq_do (v := .bool true) hA rfl rfl rfl (does_bin rfl rfl (fun w => (bin_eql w).trans (by rw [hb53]))) ?_
                       intro a hA
                       refine seq_do (v := .bool true) hA rfl rfl rfl (does_pick rfl rfl rfl rfl) ?_
                       intro a hA
                       refine seq_do (v := .bool true) hA rfl rfl rfl (does_pick rfl rfl rfl rfl) ?_
                       intro a hA
                       refine seq_do (v := .bool true) hA rfl rfl rfl (does_pick rfl rfl rfl rfl) ?_
                       intro a hA
                       refine seq_end ?_
                       refine hK42 _ _ ?_
                       refine wp_cond_true (hA.ev rfl) ?_
                       refine wp_seq_k (fun K54 hK54 => ?_)
                       refine wp_region_lit ?_
                       refine seq_do hA rfl rfl rfl (does_assign rfl) ?_
                       intro a hA
                       refine seq_end ?_
                       refine hK54 _ _ ?_
                       refine wp_ret ?_
                       refine hret _ _ ?_
                       refine ends (v := .bool true) hA rfl (.cons (res_tmp rfl) .nil) rfl ?_
                       exact ⟨rfl, hM.bel⟩
                     · have hb53' := ne_of_beq_false hb53
                       refine seq_do (v := .bool false) hA rfl rfl rfl (does_bin rfl rfl (fun w => (bin_eql w).trans (by rw [hb53]))) ?_
                       intro a hA
                       refine seq_do (v := .bool false) hA rfl rfl rfl (does_pick rfl rfl rfl rfl) ?_
                       intro a hA
                       refine seq_do (v := .bool false) hA rfl rfl rfl (does_pick rfl rfl rfl rfl) ?_
                       intro a hA
                       refine seq_do (v := .bool false) hA rfl rfl rfl (does_pick rfl rfl rfl rfl) ?_
                       intro a hA
                       refine seq_end ?_
                       refine hK42 _ _ ?_
                       refine wp_cond_false (hA.ev rfl) ?_
                       refine wp_skip ?_
                       refine hK41 _ _ ?_
                       refine wp_region_lit ?_
                       refine seq_do hA rfl rfl rfl (does_assign rfl) ?_
                       intro a hA
                       refine seq_end ?_
                       have h6 := unitsR_step hx34 he38
                       refine hK31 _ _ _ (by omega) ⟨p + cq37, false, rfl, ⟨fun g => hgood (good_step hx34 he38 (fun h3 => by omega) g), fun h3 => (by cases h3), fun _ => head_first (hfirst rfl) hx34 he38 (fun h3 => by omega), h6.2.2⟩, hA.keep _ ⟨rfl, rfl, rfl, rfl, rfl, rfl, rfl, rfl, rfl, rfl, rfl, rfl, rfl, rfl, rfl, rfl, rfl, rfl, rfl, rfl, rfl, rfl, rfl, rfl, rfl, rfl, rfl, rfl, trivial⟩, hM⟩
                 · have hb50' := ne_of_beq_false hb50
                   refine seq_do (v := .bool false) hA rfl rfl rfl (does_bin rfl rfl (fun w => (bin_eql w).trans (by rw [hb50]))) ?_
                   intro a hA
                   refine seq_do (v := .bool false) hA rfl rfl rfl (does_pick rfl rfl rfl rfl) ?_
                   intro a hA
                   refine seq_do hA rfl rfl rfl (does_move rfl) ?_
                   intro a hA
                   refine seq_skip hA rfl rfl rfl ?_
                   intro a hA
                   refine seq_skip hA rfl rfl rfl ?_
                   intro a hA
                   refine seq_skip hA rfl rfl rfl ?_
                   intro a hA
                   refine seq_skipU hA rfl rfl rfl ?_
                   intro a hA
                   refine seq_skipU hA rfl rfl rfl ?_
                   intro a hA
                   refine seq_skip hA rfl rfl rfl ?_
                   intro a hA
                   refine seq_do (v := .bool false) hA rfl rfl rfl (does_pick rfl rfl rfl rfl) ?_
                   intro a hA
                   refine seq_do (v := .bool false) hA rfl rfl rfl (does_pick rfl rfl rfl rfl) ?_
                   intro a hA
                   refine seq_end ?_
                   refine hK42 _ _ ?_
                   refine wp_cond_false (hA.ev rfl) ?_
                   refine wp_skip ?_
                   refine hK41 _ _ ?_
                   refine wp_region_lit ?_
                   refine seq_do hA rfl rfl rfl (does_assign rfl) ?_
                   intro a hA
                   refine seq_end ?_
                   have h6 := unitsR_step hx34 he38
                   refine hK31 _ _ _ (by omega) ⟨p + cq37, false, rfl, ⟨fun g => hgood (good_step hx34 he38 (fun h3 => by omega) g), fun h3 => (by cases h3), fun _ => head_first (hfirst rfl) hx34 he38 (fun h3 => by omega), h6.2.2⟩, hA.keep _ ⟨rfl, rfl, rfl, rfl, rfl, rfl, rfl, rfl, rfl, rfl, rfl, rfl, rfl, rfl, rfl, rfl, rfl, rfl, rfl, rfl, rfl, rfl, rfl, rfl, rfl, rfl, rfl, rfl, trivial⟩, hM⟩
       · have hb43' := bne_eq_false_iff_eq.1 hb43
         refine seq_do (v := .bool false) hA rfl rfl rfl (does_bin rfl rfl (fun w => (bin_neq w).trans (by rw [hb43]))) ?_
         intro a hA
         refine seq_do hA rfl rfl rfl (does_move rfl) ?_
         intro a hA
         refine seq_skip hA rfl rfl rfl ?_
         intro a hA
         refine seq_skip hA rfl rfl rfl ?_
         intro a hA
         refine seq_skip hA rfl rfl rfl ?_
         intro a hA
         refine seq_skipU hA rfl rfl rfl ?_
         intro a hA
         refine seq_skipU hA rfl rfl rfl ?_
         intro a hA
         refine seq_skip hA rfl rfl rfl ?_
         intro a hA
         refine seq_skip hA rfl rfl rfl ?_
         intro a hA
         refine seq_skipU hA rfl rfl rfl ?_
         intro a hA
         refine seq_skipU hA rfl rfl rfl ?_
         intro a hA
         refine seq_skip hA rfl rfl rfl ?_
         intro a hA
         refine seq_do (v := .bool false) hA rfl rfl rfl (does_pick rfl rfl rfl rfl) ?_
         intro a hA
         refine seq_do hA rfl rfl rfl (does_move rfl) ?_
         intro a hA
         refine seq_do hA rfl rfl rfl (does_move rfl) ?_
         intro a hA
         refine seq_do hA rfl rfl rfl (does_move rfl) ?_
         intro a hA
         rcases fb with _ | _
         · refine seq_skip hA rfl rfl rfl ?_
           intro a hA
           refine seq_skip hA rfl rfl rfl ?_
           intro a hA
           refine seq_skip hA rfl rfl rfl ?_
           intro a hA
           refine seq_do (v := .bool false) hA rfl rfl rfl (does_pick rfl rfl rfl rfl) ?_
           intro a hA
           refine seq_do hA rfl rfl rfl (does_move rfl) ?_
           intro a hA
           refine seq_skip hA rfl rfl rfl ?_
           intro a hA
           refine seq_skip hA rfl rfl rfl ?_
           intro a hA
           refine seq_skip hA rfl rfl rfl ?_
           intro a hA
           refine seq_skipU hA rfl rfl rfl ?_
           intro a hA
           refine seq_skipU hA rfl rfl rfl ?_
           intro a hA
           refine seq_skip hA rfl rfl rfl ?_
           intro a hA
           refine seq_do (v := .bool false) hA rfl rfl rfl (does_pick rfl rfl rfl rfl) ?_
           intro a hA
           refine seq_do (v := .bool false) hA rfl rfl rfl (does_pick rfl rfl rfl rfl) ?_
           intro a hA
           refine seq_end ?_
           refine hK42 _ _ ?_
           refine wp_cond_false (hA.ev rfl) ?_
           refine wp_skip ?_
           refine hK41 _ _ ?_
           refine wp_region_lit ?_
           refine seq_do hA rfl rfl rfl (does_assign rfl) ?_
           intro a hA
           refine seq_end ?_
           have h6 := unitsR_step hx34 he38
           refine hK31 _ _ _ (by omega) ⟨p + cq37, false, rfl, ⟨fun g => hgood (good_step hx34 he38 (fun h3 => by omega) g), fun h3 => (by cases h3), fun _ => hhead rfl, h6.2.2⟩, hA.keep _ ⟨rfl, rfl, rfl, rfl, rfl, rfl, rfl, rfl, rfl, rfl, rfl, rfl, rfl, rfl, rfl, rfl, rfl, rfl, rfl, rfl, rfl, rfl, rfl, rfl, rfl, rfl, rfl, rfl, trivial⟩, hM⟩
         · refine seq_do (v := .pointer (some ⟨g2, 0, none⟩)) hA rfl rfl rfl (does_field CoT_fld_23_0 rfl rfl) ?_
           intro a hA
           refine seq_do hA rfl rfl rfl (m_load1 hM CoT_is1_3 rfl 2 rfl rfl) ?_
           intro a hA
           rcases Bool.eq_false_or_eq_true ((c == 3)) with hb55 | hb55
           · have hb55' := eq_of_beq hb55
             refine seq_do (v := .bool true) hA rfl rfl rfl (does_bin rfl rfl (fun w => (bin_eql w).trans (by rw [hb55]))) ?_
             intro a hA
             refine seq_do (v := .bool true) hA rfl rfl rfl (does_pick rfl rfl rfl rfl) ?_
             intro a hA
             refine seq_do hA rfl rfl rfl (does_move rfl) ?_
             intro a hA
             refine seq_do hA rfl rfl rfl (does_move rfl) ?_
             intro a hA
             rcases Bool.eq_false_or_eq_true ((((cr36 : Nat) : Int) == 65279)) with hb56 | hb56
             · have hb56' := eq_of_beq hb56
               refine seq_do (v := .bool true) hA rfl rfl rfl (does_bin rfl rfl (fun w => (bin_eql w).trans (by rw [hb56]))) ?_
               intro a hA
               refine seq_do hA rfl rfl rfl (does_move rfl) ?_
               intro a hA
               refine seq_skip hA rfl rfl rfl ?_
               intro a hA
               refine seq_skip hA rfl rfl rfl ?_
               intro a hA
               refine seq_do (v := .bool true) hA rfl rfl rfl (does_pick rfl rfl rfl rfl) ?_
               intro a hA
               refine seq_do (v := .bool true) hA rfl rfl rfl (does_pick rfl rfl rfl rfl) ?_
               intro a hA
               refine seq_do (v := .bool true) hA rfl rfl rfl (does_pick rfl rfl rfl rfl) ?_
               intro a hA
               refine seq_end ?_
               refine hK42 _ _ ?_
               refine wp_cond_true (hA.ev rfl) ?_
               refine wp_seq_k (fun K57 hK57 => ?_)
               refine wp_region_lit ?_
               refine seq_do hA rfl rfl rfl (does_assign rfl) ?_
               intro a hA
               refine seq_end ?_
               refine hK57 _ _ ?_
               refine wp_ret ?_
               refine hret _ _ ?_
               refine ends (v := .bool true) hA rfl (.cons (res_tmp rfl) .nil) rfl ?_
               exact ⟨rfl, hM.bel⟩
             · have hb56' := ne_of_beq_false hb56
               refine seq_do (v := .bool false) hA rfl rfl rfl (does_bin rfl rfl (fun w => (bin_eql w).trans (by rw [hb56]))) ?_
               intro a hA
               refine seq_do hA rfl rfl rfl (does_move rfl) ?_
               intro a hA
               refine seq_do hA rfl rfl rfl (does_move rfl) ?_
               intro a hA
               rcases Bool.eq_false_or_eq_true ((((cr36 : Nat) : Int) == 65534)) with hb58 | hb58
               · have hb58' := eq_of_beq hb58
                 refine seq_do (v := .bool true) hA rfl rfl rfl (does_bin rfl rfl (fun w => (bin_eql w).trans (by rw [hb58]))) ?_
                 intro a hA
                 refine seq_do (v := .bool true) hA rfl rfl rfl (does_pick rfl rfl rfl rfl) ?_
                 intro a hA
                 refine seq_do (v := .bool true) hA rfl rfl rfl (does_pick rfl rfl rfl rfl) ?_
                 intro a hA
                 refine seq_do (v := .bool true) hA rfl rfl rfl (does_pick rfl rfl rfl rfl) ?_
                 intro a hA
                 refine seq_end ?_
                 refine hK42 _ _ ?_
                 refine wp_cond_true (hA.ev rfl) ?_
                 refine wp_seq_k (fun K59 hK59 => ?_)
                 refine wp_region_lit ?_
                 refine seq_do hA rfl rfl rfl (does_assign rfl) ?_
                 intro a hA
                 refine seq_end ?_
                 refine hK59 _ _ ?_
                 refine wp_ret ?_
                 refine hret _ _ ?_
                 refine ends (v := .bool true) hA rfl (.cons (res_tmp rfl) .nil) rfl ?_
                 exact ⟨rfl, hM.bel⟩
               · have hb58' := ne_of_beq_false hb58
                 refine seq_do (v := .bool false) hA rfl rfl rfl (does_bin rfl rfl (fun w => (bin_eql w).trans (by rw [hb58]))) ?_
                 intro a hA
                 refine seq_do (v := .bool false) hA rfl rfl rfl (does_pick rfl rfl rfl rfl) ?_
                 intro a hA
                 refine seq_do (v := .bool false) hA rfl rfl rfl (does_pick rfl rfl rfl rfl) ?_
                 intro a hA
                 refine seq_do (v := .bool false) hA rfl rfl rfl (does_pick rfl rfl rfl rfl) ?_
                 intro a hA
                 refine seq_end ?_
                 refine hK42 _ _ ?_
                 refine wp_cond_false (hA.ev rfl) ?_
                 refine wp_skip ?_
                 refine hK41 _ _ ?_
                 refine wp_region_lit ?_
                 refine seq_do hA rfl rfl rfl (does_assign rfl) ?_
                 intro a hA
                 refine seq_end ?_
                 have h6 := unitsR_step hx34 he38
                 refine hK31 _ _ _ (by omega) ⟨p + cq37, false, rfl, ⟨fun g => hgood (good_step hx34 he38 (fun h3 => by omega) g), fun h3 => (by cases h3), fun _ => head_first (hfirst rfl) hx34 he38 (fun h3 => by omega), h6.2.2⟩, hA.keep _ ⟨rfl, rfl, rfl, rfl, rfl, rfl, rfl, rfl, rfl, rfl, rfl, rfl, rfl, rfl, rfl, rfl, rfl, rfl, rfl, rfl, rfl, rfl, rfl, rfl, rfl, rfl, rfl, rfl, trivial⟩, hM⟩
           · have hb55' := ne_of_beq_false hb55
             refine seq_do (v := .bool false) hA rfl rfl rfl (does_bin rfl rfl (fun w => (bin_eql w).trans (by rw [hb55]))) ?_
             intro a hA
             refine seq_do (v := .bool false) hA rfl rfl rfl (does_pick rfl rfl rfl rfl) ?_
             intro a hA
             refine seq_do hA rfl rfl rfl (does_move rfl) ?_
             intro a hA
             refine seq_skip hA rfl rfl rfl ?_
             intro a hA
             refine seq_skip hA rfl rfl rfl ?_
             intro a hA
             refine seq_skip hA rfl rfl rfl ?_
             intro a hA
             refine seq_skipU hA rfl rfl rfl ?_
             intro a hA
             refine seq_skipU hA rfl rfl rfl ?_
             intro a hA
             refine seq_skip hA rfl rfl rfl ?_
             intro a hA
             refine seq_do (v := .bool false) hA rfl rfl rfl (does_pick rfl rfl rfl rfl) ?_
             intro a hA
             refine seq_do (v := .bool false) hA rfl rfl rfl (does_pick rfl rfl rfl rfl) ?_
             intro a hA
             refine seq_end ?_
             refine hK42 _ _ ?_
             refine wp_cond_false (hA.ev rfl) ?_
             refine wp_skip ?_
             refine hK41 _ _ ?_
             refine wp_region_lit ?_
             refine seq_do hA rfl rfl rfl (does_assign rfl) ?_
             intro a hA
             refine seq_end ?_
             have h6 := unitsR_step hx34 he38
             refine hK31 _ _ _ (by omega) ⟨p + cq37, false, rfl, ⟨fun g => hgood (good_step hx34 he38 (fun h3 => by omega) g), fun h3 => (by cases h3), fun _ => head_first (hfirst rfl) hx34 he38 (fun h3 => by omega), h6.2.2⟩, hA.keep _ ⟨rfl, rfl, rfl, rfl, rfl, rfl, rfl, rfl, rfl, rfl, rfl, rfl, rfl, rfl, rfl, rfl, rfl, rfl, rfl, rfl, rfl, rfl, rfl, rfl, rfl, rfl, rfl, rfl, trivial⟩, hM⟩
     · refine s_over hA hM rfl rfl 0 rfl hx34 rfl rfl rfl ?_
       intro a hA
       refine seq_do (v := .bool false) hA rfl rfl rfl (does_extract (vs := [.bool false]) rfl rfl) ?_
       intro a hA
       refine seq_end ?_
       refine hK33 _ _ ?_
       refine wp_seq_k (fun K60 hK60 => ?_)
       refine wp_cond_false (hA.ev rfl) ?_
       refine wp_exit ?_
       refine hK26 _ _ ?_
       refine wp_seq_k (fun K61 hK61 => ?_)
       refine wp_region_lit ?_
       refine seq_do hA rfl rfl rfl (m_loadS hM CoT_isS_23 rfl 2 rfl (cs := [.int .i64 c, .int .i64 k, .int .i64 0]) rfl rfl) ?_
       intro a hA
       refine seq_do hA rfl rfl rfl (does_move rfl) ?_
       intro a hA
       have hB := enc_back (c := c) (k := k) (s := s) (by omega) (by omega) (hgood (good_end hx34)) (head_end hx34 hfirst hhead)
       refine seq_call hA rfl rfl rfl (enters_func rfl rfl (fun w => by kernel_rfl)) (decode_back (rb_row hM 1 rfl).1 hB) ?_
       rintro _ w63 ⟨rfl, hb62⟩
       replace hM := hM.call hb62
       refine ⟨_, rfl, ?_⟩
       intro a hA
       refine seq_do hA rfl rfl rfl (does_move rfl) ?_
       intro a hA
       refine seq_do (v := .string s) hA rfl rfl rfl (does_extract (vs := [.string s, .int .i64 0, .int .i64 0]) rfl rfl) ?_
       intro a hA
       refine seq_do (v := .int .i64 0) hA rfl rfl rfl (does_extract (vs := [.string s, .int .i64 0, .int .i64 0]) rfl rfl) ?_
       intro a hA
       refine seq_do (v := .int .i64 0) hA rfl rfl rfl (does_extract (vs := [.string s, .int .i64 0, .int .i64 0]) rfl rfl) ?_
       intro a hA
       refine seq_do hA rfl rfl rfl (does_assign rfl) ?_
       intro a hA
       refine seq_do hA rfl rfl rfl (does_assign rfl) ?_
       intro a hA
       refine seq_do hA rfl rfl rfl (does_assign rfl) ?_
       intro a hA
       refine seq_end ?_
       refine hK61 _ _ ?_
       refine wp_seq_k (fun K64 hK64 => ?_)
       refine wp_region_lit ?_
       refine seq_do hA rfl rfl rfl (does_move rfl) ?_
       intro a hA
       refine seq_do (v := .bool true) hA rfl rfl rfl (does_bin rfl rfl (fun w => by kernel_rfl)) ?_
       intro a hA
       refine seq_do hA rfl rfl rfl (does_move rfl) ?_
       intro a hA
       refine seq_do hA rfl rfl rfl (does_move rfl) ?_
       intro a hA
       refine seq_do hA rfl rfl rfl (does_move rfl) ?_
       intro a hA
       refine seq_do (v := .bool true) hA rfl rfl rfl (does_bin rfl rfl (bin_eqlT Try.underlying9 rfl)) ?_
       intro a hA
       refine seq_do (v := .bool true) hA rfl rfl rfl (does_pick rfl rfl rfl rfl) ?_
       intro a hA
       refine seq_do hA rfl rfl rfl (does_assign rfl) ?_
       intro a hA
       refine seq_end ?_
       refine hK64 _ _ ?_
       refine wp_ret ?_
       refine hret _ _ ?_
       refine ends (v := .bool true) hA rfl (.cons (res_tmp rfl) .nil) rfl ?_
       exact ⟨rfl, hM.bel⟩
end Go.Proofs.Ytkngmgddjjefnaa
