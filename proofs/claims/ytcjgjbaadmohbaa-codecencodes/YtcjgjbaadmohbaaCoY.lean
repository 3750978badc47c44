/- The walk of the document's Ends. -/
import Derived.Test.YtcjgjbaadmohbaaCoP
namespace Go.Proofs.Ytcjgjbaadmohbaa
open Go.RowKit
set_option linter.unusedVariables false
set_option linter.unusedSimpArgs false
set_option maxRecDepth 100000
theorem CoY_is1_21 : Is1 Try.prog 21 := ⟨⟨_, Try.underlying21, rfl⟩, by kernel_rfl⟩
/-- Characters whose line ends are made plain. -/
def pieceC (k a r : Int) : List Int := if k ≠ 0 ∧ a = 13 ∧ (r = 10 ∨ r = 133) then [] else [if k ≠ 0 ∧ (r = 13 ∨ r = 133 ∨ r = 8232) then 10 else r]
def plC (k : Int) : Int → List Int → List Int
  | _, [] => []
  | a, r :: rs => pieceC k a r ++ plC k r rs
def prv (l : List Int) (i : Nat) : Int := if i = 0 then 0 else l.getD (i - 1) 0
theorem prv_zero {l : List Int} {i : Nat} (h : i = 0) : prv l i = 0 := if_pos h
theorem prv_some {l : List Int} {i : Nat} (h : 0 < i) : prv l i = l.getD (i - 1) 0 := if_neg (by omega)
theorem plC_step {k : Int} {l : List Int} {i : Nat} (h : i < l.length) : plC k (prv l i) (l.drop i) = pieceC k (prv l i) (l.getD i 0) ++ plC k (prv l (i + 1)) (l.drop (i + 1)) := by
  rw [List.drop_eq_getElem_cons h, prv_some (show 0 < i + 1 by omega), show i + 1 - 1 = i from by omega]
  show pieceC k (prv l i) l[i] ++ plC k l[i] (l.drop (i + 1)) = _
  rw [show l.getD i 0 = l[i] from by simp [List.getD, h]]
theorem plC_over {k a : Int} {l : List Int} {i : Nat} (h : ¬ i < l.length) : plC k a (l.drop i) = [] := by
  rw [List.drop_eq_nil_of_le (by omega)]
  rfl
theorem piece_skip {k a r : Int} (h : k ≠ 0 ∧ a = 13 ∧ (r = 10 ∨ r = 133)) : pieceC k a r = [] := if_pos h
theorem piece_end {k a r : Int} (h : ¬ (k ≠ 0 ∧ a = 13 ∧ (r = 10 ∨ r = 133))) (h2 : k ≠ 0 ∧ (r = 13 ∨ r = 133 ∨ r = 8232)) : pieceC k a r = [10] := by unfold pieceC; rw [if_neg h, if_pos h2]
theorem piece_same {k a r : Int} (h : ¬ (k ≠ 0 ∧ a = 13 ∧ (r = 10 ∨ r = 133))) (h2 : ¬ (k ≠ 0 ∧ (r = 13 ∨ r = 133 ∨ r = 8232))) : pieceC k a r = [r] := by unfold pieceC; rw [if_neg h, if_neg h2]
theorem rends_any {w : World} {k : Int} {so : Option Addr} {cap : Nat} {l : List Int} (hl0 : Rr w so l) (hlen : l.length ≤ 1000000) : Calls Try.prog 41 #[.int .i64 k, .slice so l.length cap] w fun e w' => ∃ v, e = .returned v ∧ Mg w w' [.row 21 1 v (plC k 0 l).length (runeV (plC k 0 l))] := by
 have hM : Mg w w ([]) := Mg.start w
 refine walk_of (l := [(0, .int .i64 k), (1, .slice so l.length cap)]) Try.func41 rfl Try.ntmps41 rfl rfl ?_
 intro Q hret hnorm hP a hA
 refine wp_seq_k (fun K1 hK1 => ?_)
 refine wp_region_lit ?_
 refine seq_do hA rfl rfl rfl (does_assign rfl) ?_
 intro a hA
 refine seq_end ?_
 refine hK1 _ _ ?_
 refine wp_seq_k (fun K2 hK2 => ?_)
 refine wp_region_lit ?_
 refine s_litE (e := 21) (sz := 1) (m := 0) (vs := []) hA hM rfl rfl rfl (does_buildSlice rfl (by kernel_rfl)) rfl rfl (.inl (by decide)) ?_
 intro g3 w4 hM a hA
 refine seq_do hA rfl rfl rfl (does_assign rfl) ?_
 intro a hA
 refine seq_end ?_
 refine hK2 _ _ ?_
 refine wp_seq_k (fun K5 hK5 => ?_)
 refine wp_seq_k (fun K6 hK6 => ?_)
 refine wp_region_lit ?_
 refine seq_do hA rfl rfl rfl (does_assign rfl) ?_
 intro a hA
 refine seq_end ?_
 refine hK6 _ _ ?_
 refine wp_block ?_
 refine wp_loop_n (fun m_ a w1 => ∃ (i : Nat) (acc : List Int) (vo : Value), m_ = l.length - i ∧ (acc ++ plC k (prv l i) (l.drop i) = plC k 0 l ∧ i ≤ l.length ∧ acc.length ≤ i) ∧ Sl a 62 [(0, .int .i64 k), (1, .slice so l.length cap), (4, .slice none 0 0), (5, vo), (6, .int .i64 (((i : Nat) : Int))), (9, .slice (some ⟨g3, 0, none⟩) 0 0)] ∧ Mg w w1 (.row 21 1 (vo) acc.length ((runeV acc)) :: [])) _ ⟨0, [], .slice (some ⟨g3, 0, none⟩) 0 0, rfl, ⟨by rw [prv_zero rfl]; rfl, Nat.zero_le _, Nat.le_refl _⟩, hA.keep _ ⟨rfl, rfl, rfl, rfl, rfl, rfl, trivial⟩, hM⟩ ?_
 clear hM hA
 rintro m_ a w7 ⟨i, acc, vo, rfl, hinv9, hA, hM⟩ K8 hK8
 obtain ⟨hrun, hi9, hacc⟩ := hinv9
 have hp0 := @prv_zero l i
 have hp1 := @prv_some l i
 refine wp_seq_k (fun K10 hK10 => ?_)
 refine wp_seq_k (fun K11 hK11 => ?_)
 refine wp_region_lit ?_
 refine seq_do hA rfl rfl rfl (does_move rfl) ?_
 intro a hA
 refine seq_do hA rfl rfl rfl (does_move rfl) ?_
 intro a hA
 refine seq_do (v := .int .i64 (((l.length : Nat) : Int))) hA rfl rfl rfl (does_len Try.underlying74 rfl) ?_
 intro a hA
 rcases Bool.eq_false_or_eq_true (decide (((i : Nat) : Int) < ((l.length : Nat) : Int))) with hb12 | hb12
 · have hb12' := of_decide_eq_true hb12
   refine seq_do (v := .bool true) hA rfl rfl rfl (does_bin rfl rfl (fun w => (bin_lss w).trans (by rw [hb12]))) ?_
   intro a hA
   refine seq_end ?_
   refine hK11 _ _ ?_
   refine wp_cond_true (hA.ev rfl) ?_
   refine wp_skip ?_
   refine hK10 _ _ ?_
   refine wp_seq_k (fun K13 hK13 => ?_)
   refine wp_block ?_
   refine wp_seq_k (fun K14 hK14 => ?_)
   refine wp_region_lit ?_
   refine seq_do hA rfl rfl rfl (does_move rfl) ?_
   intro a hA
   refine seq_do hA rfl rfl rfl (does_move rfl) ?_
   intro a hA
   obtain ⟨bx, ox, hx1, hx2, hx3⟩ := rr_open (i := i) hl0 (by omega)
   refine seq_do (v := .pointer (some ⟨bx, ox + (i), none⟩)) hA rfl rfl rfl (does_indexRow Try.underlying74 (by kernel_rfl) rfl rfl rfl hx1 (show i < l.length by omega)) ?_
   intro a hA
   refine seq_do (v := .int .i32 (l.getD (i) 0)) hA rfl rfl rfl (m_loadR hM hx2 (hx3 (i) (by omega)) CoY_is1_21 rfl) ?_
   intro a hA
   refine seq_do hA rfl rfl rfl (does_assign rfl) ?_
   intro a hA
   refine seq_end ?_
   refine hK14 _ _ ?_
   refine wp_seq_k (fun K15 hK15 => ?_)
   refine wp_region_lit ?_
   refine seq_do hA rfl rfl rfl (does_move rfl) ?_
   intro a hA
   rcases Bool.eq_false_or_eq_true (decide (0 < ((i : Nat) : Int))) with hb16 | hb16
   · have hb16' := of_decide_eq_true hb16
     refine seq_do (v := .bool true) hA rfl rfl rfl (does_bin rfl rfl (fun w => (bin_gtr w).trans (by rw [hb16]))) ?_
     intro a hA
     refine seq_do hA rfl rfl rfl (does_move rfl) ?_
     intro a hA
     refine seq_do hA rfl rfl rfl (does_move rfl) ?_
     intro a hA
     refine seq_do hA rfl rfl rfl (does_move rfl) ?_
     intro a hA
     refine seq_do (v := .int .i64 (((i - 1 : Nat) : Int))) hA rfl rfl rfl (does_bin rfl rfl (ar_sub ((in_i64 (by omega) (by omega)).trans (by omega)))) ?_
     intro a hA
     refine seq_do (v := .pointer (some ⟨bx, ox + (i - 1), none⟩)) hA rfl rfl rfl (does_indexRow Try.underlying74 (by kernel_rfl) rfl rfl rfl hx1 (show i - 1 < l.length by omega)) ?_
     intro a hA
     refine seq_do (v := .int .i32 (l.getD (i - 1) 0)) hA rfl rfl rfl (m_loadR hM hx2 (hx3 (i - 1) (by omega)) CoY_is1_21 rfl) ?_
     intro a hA
     rcases Bool.eq_false_or_eq_true ((l.getD (i - 1) 0 == 13)) with hb17 | hb17
     · have hb17' := eq_of_beq hb17
       refine seq_do (v := .bool true) hA rfl rfl rfl (does_bin rfl rfl (fun w => (bin_eql w).trans (by rw [hb17]))) ?_
       intro a hA
       refine seq_do (v := .bool true) hA rfl rfl rfl (does_pick rfl rfl rfl rfl) ?_
       intro a hA
       refine seq_do hA rfl rfl rfl (does_move rfl) ?_
       intro a hA
       refine seq_do hA rfl rfl rfl (does_move rfl) ?_
       intro a hA
       rcases Bool.eq_false_or_eq_true ((l.getD (i) 0 == 10)) with hb18 | hb18
       · have hb18' := eq_of_beq hb18
         refine seq_do (v := .bool true) hA rfl rfl rfl (does_bin rfl rfl (fun w => (bin_eql w).trans (by rw [hb18]))) ?_
         intro a hA
         refine seq_do hA rfl rfl rfl (does_move rfl) ?_
         intro a hA
         refine seq_skip hA rfl rfl rfl ?_
         intro a hA
         refine seq_skip hA rfl rfl rfl ?_
         intro a hA
         refine seq_do (v := .bool true) hA rfl rfl rfl (does_pick rfl rfl rfl rfl) ?_
         intro a hA
         refine seq_do (v := .bool true) hA rfl rfl rfl (does_pick rfl rfl rfl rfl) ?_
         intro a hA
         refine seq_do hA rfl rfl rfl (does_assign rfl) ?_
         intro a hA
         refine seq_end ?_
         refine hK15 _ _ ?_
         refine wp_seq_k (fun K19 hK19 => ?_)
         refine wp_seq_k (fun K20 hK20 => ?_)
         refine wp_region_lit ?_
         refine seq_do hA rfl rfl rfl (does_move rfl) ?_
         intro a hA
         rcases Bool.eq_false_or_eq_true ((k != 0)) with hb21 | hb21
         · have hb21' := bne_iff_ne.1 hb21
           refine seq_do (v := .bool true) hA rfl rfl rfl (does_bin rfl rfl (fun w => (bin_neq w).trans (by rw [hb21]))) ?_
           intro a hA
           refine seq_do hA rfl rfl rfl (does_move rfl) ?_
           intro a hA
           refine seq_do hA rfl rfl rfl (does_move rfl) ?_
           intro a hA
           refine seq_do (v := .bool true) hA rfl rfl rfl (does_pick rfl rfl rfl rfl) ?_
           intro a hA
           refine seq_end ?_
           refine hK20 _ _ ?_
           refine wp_cond_true (hA.ev rfl) ?_
           refine wp_exit ?_
           refine hK13 _ _ ?_
           refine wp_region_lit ?_
           refine seq_do hA rfl rfl rfl (does_move rfl) ?_
           intro a hA
           refine seq_do (v := .int .i64 (((i + 1 : Nat) : Int))) hA rfl rfl rfl (does_bin rfl rfl (ar_add ((in_i64 (by omega) (by omega)).trans (by omega)))) ?_
           intro a hA
           refine seq_do hA rfl rfl rfl (does_assign rfl) ?_
           intro a hA
           refine seq_end ?_
           have hi8 : i < l.length := by omega
           refine hK8 _ _ _ (by omega) ⟨i + 1, acc, vo, rfl, ⟨by rw [← hrun, plC_step hi8, piece_skip (by omega), List.nil_append], by omega, by omega⟩, hA.keep _ ⟨rfl, rfl, rfl, rfl, rfl, rfl, trivial⟩, hM⟩
         · have hb21' := bne_eq_false_iff_eq.1 hb21
           refine seq_do (v := .bool false) hA rfl rfl rfl (does_bin rfl rfl (fun w => (bin_neq w).trans (by rw [hb21]))) ?_
           intro a hA
           refine seq_do hA rfl rfl rfl (does_move rfl) ?_
           intro a hA
           refine seq_skip hA rfl rfl rfl ?_
           intro a hA
           refine seq_do (v := .bool false) hA rfl rfl rfl (does_pick rfl rfl rfl rfl) ?_
           intro a hA
           refine seq_end ?_
           refine hK20 _ _ ?_
           refine wp_cond_false (hA.ev rfl) ?_
           refine wp_skip ?_
           refine hK19 _ _ ?_
           refine wp_seq_k (fun K22 hK22 => ?_)
           refine wp_seq_k (fun K23 hK23 => ?_)
           refine wp_region_lit ?_
           refine seq_do hA rfl rfl rfl (does_move rfl) ?_
           intro a hA
           refine seq_do (v := .bool false) hA rfl rfl rfl (does_bin rfl rfl (fun w => (bin_neq w).trans (by rw [show ((k != 0)) = false from hb21]))) ?_
           intro a hA
           refine seq_do hA rfl rfl rfl (does_move rfl) ?_
           intro a hA
           refine seq_skip hA rfl rfl rfl ?_
           intro a hA
           refine seq_skip hA rfl rfl rfl ?_
           intro a hA
           refine seq_skip hA rfl rfl rfl ?_
           intro a hA
           refine seq_skipU hA rfl rfl rfl ?_
           intro a hA
           refine seq_skipU hA rfl rfl rfl ?_
           intro a hA
           refine seq_skip hA rfl rfl rfl ?_
           intro a hA
           refine seq_skip hA rfl rfl rfl ?_
           intro a hA
           refine seq_skipU hA rfl rfl rfl ?_
           intro a hA
           refine seq_skipU hA rfl rfl rfl ?_
           intro a hA
           refine seq_skip hA rfl rfl rfl ?_
           intro a hA
           refine seq_do (v := .bool false) hA rfl rfl rfl (does_pick rfl rfl rfl rfl) ?_
           intro a hA
           refine seq_end ?_
           refine hK23 _ _ ?_
           refine wp_cond_false (hA.ev rfl) ?_
           refine wp_skip ?_
           refine hK22 _ _ ?_
           refine wp_region_lit ?_
           refine seq_do hA rfl rfl rfl (does_move rfl) ?_
           intro a hA
           refine seq_do hA rfl rfl rfl (does_move rfl) ?_
           intro a hA
           refine s_litE (e := 21) (sz := 1) (m := 1) (vs := [.int .i32 (l.getD (i) 0)]) hA hM rfl rfl rfl (does_buildSlice rfl (by kernel_rfl)) rfl rfl (.inl (by decide)) ?_
           intro g24 w25 hM a hA
           refine s_appendE (e := 21) (sz := 1) (k := 1) (q := acc.length) (m := 1) (xs := (runeV acc)) (news := [.int .i32 (l.getD (i) 0)]) (L' := fun v26 => (.row 21 1 (.slice (some ⟨g24, 0, none⟩) 1 1) 1 ([.int .i32 (l.getD (i) 0)]) :: .row 21 1 (v26) (acc.length + 1) ((runeV acc) ++ [.int .i32 (l.getD (i) 0)]) :: [])) hA rfl rfl rfl (m_appendE (z := .int .i32 0) (sz := 1) (by_ := 4) Try.underlying74 (by kernel_rfl) rfl rfl rfl hM 1 rfl rfl 0 rfl rfl rfl rfl (by omega)) (fun _ => rfl) ?_
           intro v26 w27 hM a hA
           refine seq_do hA rfl rfl rfl (does_assign rfl) ?_
           intro a hA
           refine seq_end ?_
           refine hK13 _ _ ?_
           refine wp_region_lit ?_
           refine seq_do hA rfl rfl rfl (does_move rfl) ?_
           intro a hA
           refine seq_do (v := .int .i64 (((i + 1 : Nat) : Int))) hA rfl rfl rfl (does_bin rfl rfl (ar_add ((in_i64 (by omega) (by omega)).trans (by omega)))) ?_
           intro a hA
           refine seq_do hA rfl rfl rfl (does_assign rfl) ?_
           intro a hA
           refine seq_end ?_
           have hi8 : i < l.length := by omega
           replace hM : Mg w w27 [.row 21 1 v26 (acc ++ [l.getD (i) 0]).length (runeV (acc ++ [l.getD (i) 0]))] := by
             have h9 := hM.sub (.cons _ (.cons_cons _ (.refl _)))
             simpa [runeV] using h9
           refine hK8 _ _ _ (by omega) ⟨i + 1, acc ++ [l.getD (i) 0], v26, rfl, ⟨by rw [← hrun, plC_step hi8, piece_same (by omega) (by omega), List.append_assoc], by omega, by rw [List.length_append]; simp only [List.length_cons, List.length_nil]; omega⟩, hA.keep _ ⟨rfl, rfl, rfl, rfl, rfl, rfl, trivial⟩, hM⟩
       · have hb18' := ne_of_beq_false hb18
         refine seq_do (v := .bool false) hA rfl rfl rfl (does_bin rfl rfl (fun w => (bin_eql w).trans (by rw [hb18]))) ?_
         intro a hA
         refine seq_do hA rfl rfl rfl (does_move rfl) ?_
         intro a hA
         refine seq_do hA rfl rfl rfl (does_move rfl) ?_
         intro a hA
         rcases Bool.eq_false_or_eq_true ((l.getD (i) 0 == 133)) with hb28 | hb28
         · have hb28' := eq_of_beq hb28
           refine seq_do (v := .bool true) hA rfl rfl rfl (does_bin rfl rfl (fun w => (bin_eql w).trans (by rw [hb28]))) ?_
           intro a hA
           refine seq_do (v := .bool true) hA rfl rfl rfl (does_pick rfl rfl rfl rfl) ?_
           intro a hA
           refine seq_do (v := .bool true) hA rfl rfl rfl (does_pick rfl rfl rfl rfl) ?_
           intro a hA
           refine seq_do hA rfl rfl rfl (does_assign rfl) ?_
           intro a hA
           refine seq_end ?_
           refine hK15 _ _ ?_
           refine wp_seq_k (fun K29 hK29 => ?_)
           refine wp_seq_k (fun K30 hK30 => ?_)
           refine wp_region_lit ?_
           refine seq_do hA rfl rfl rfl (does_move rfl) ?_
           intro a hA
           rcases Bool.eq_false_or_eq_true ((k != 0)) with hb31 | hb31
           · have hb31' := bne_iff_ne.1 hb31
             refine seq_do (v := .bool true) hA rfl rfl rfl (does_bin rfl rfl (fun w => (bin_neq w).trans (by rw [hb31]))) ?_
             intro a hA
             refine seq_do hA rfl rfl rfl (does_move rfl) ?_
             intro a hA
             refine seq_do hA rfl rfl rfl (does_move rfl) ?_
             intro a hA
             refine seq_do (v := .bool true) hA rfl rfl rfl (does_pick rfl rfl rfl rfl) ?_
             intro a hA
             refine seq_end ?_
             refine hK30 _ _ ?_
             refine wp_cond_true (hA.ev rfl) ?_
             refine wp_exit ?_
             refine hK13 _ _ ?_
             refine wp_region_lit ?_
             refine seq_do hA rfl rfl rfl (does_move rfl) ?_
             intro a hA
             refine seq_do (v := .int .i64 (((i + 1 : Nat) : Int))) hA rfl rfl rfl (does_bin rfl rfl (ar_add ((in_i64 (by omega) (by omega)).trans (by omega)))) ?_
             intro a hA
             refine seq_do hA rfl rfl rfl (does_assign rfl) ?_
             intro a hA
             refine seq_end ?_
             have hi8 : i < l.length := by omega
             refine hK8 _ _ _ (by omega) ⟨i + 1, acc, vo, rfl, ⟨by rw [← hrun, plC_step hi8, piece_skip (by omega), List.nil_append], by omega, by omega⟩, hA.keep _ ⟨rfl, rfl, rfl, rfl, rfl, rfl, trivial⟩, hM⟩
           · have hb31' := bne_eq_false_iff_eq.1 hb31
             refine seq_do (v := .bool false) hA rfl rfl rfl (does_bin rfl rfl (fun w => (bin_neq w).trans (by rw [hb31]))) ?_
             intro a hA
             refine seq_do hA rfl rfl rfl (does_move rfl) ?_
             intro a hA
             refine seq_skip hA rfl rfl rfl ?_
             intro a hA
             refine seq_do (v := .bool false) hA rfl rfl rfl (does_pick rfl rfl rfl rfl) ?_
             intro a hA
             refine seq_end ?_
             refine hK30 _ _ ?_
             refine wp_cond_false (hA.ev rfl) ?_
             refine wp_skip ?_
             refine hK29 _ _ ?_
             refine wp_seq_k (fun K32 hK32 => ?_)
             refine wp_seq_k (fun K33 hK33 => ?_)
             refine wp_region_lit ?_
             refine seq_do hA rfl rfl rfl (does_move rfl) ?_
             intro a hA
             refine seq_do (v := .bool false) hA rfl rfl rfl (does_bin rfl rfl (fun w => (bin_neq w).trans (by rw [show ((k != 0)) = false from hb31]))) ?_
             intro a hA
             refine seq_do hA rfl rfl rfl (does_move rfl) ?_
             intro a hA
             refine seq_skip hA rfl rfl rfl ?_
             intro a hA
             refine seq_skip hA rfl rfl rfl ?_
             intro a hA
             refine seq_skip hA rfl rfl rfl ?_
             intro a hA
             refine seq_skipU hA rfl rfl rfl ?_
             intro a hA
             refine seq_skipU hA rfl rfl rfl ?_
             intro a hA
             refine seq_skip hA rfl rfl rfl ?_
             intro a hA
             refine seq_skip hA rfl rfl rfl ?_
             intro a hA
             refine seq_skipU hA rfl rfl rfl ?_
             intro a hA
             refine seq_skipU hA rfl rfl rfl ?_
             intro a hA
             refine seq_skip hA rfl rfl rfl ?_
             intro a hA
             refine seq_do (v := .bool false) hA rfl rfl rfl (does_pick rfl rfl rfl rfl) ?_
             intro a hA
             refine seq_end ?_
             refine hK33 _ _ ?_
             refine wp_cond_false (hA.ev rfl) ?_
             refine wp_skip ?_
             refine hK32 _ _ ?_
             refine wp_region_lit ?_
             refine seq_do hA rfl rfl rfl (does_move rfl) ?_
             intro a hA
             refine seq_do hA rfl rfl rfl (does_move rfl) ?_
             intro a hA
             refine s_litE (e := 21) (sz := 1) (m := 1) (vs := [.int .i32 (l.getD (i) 0)]) hA hM rfl rfl rfl (does_buildSlice rfl (by kernel_rfl)) rfl rfl (.inl (by decide)) ?_
             intro g34 w35 hM a hA
             refine s_appendE (e := 21) (sz := 1) (k := 1) (q := acc.length) (m := 1) (xs := (runeV acc)) (news := [.int .i32 (l.getD (i) 0)]) (L' := fun v36 => (.row 21 1 (.slice (some ⟨g34, 0, none⟩) 1 1) 1 ([.int .i32 (l.getD (i) 0)]) :: .row 21 1 (v36) (acc.length + 1) ((runeV acc) ++ [.int .i32 (l.getD (i) 0)]) :: [])) hA rfl rfl rfl (m_appendE (z := .int .i32 0) (sz := 1) (by_ := 4) Try.underlying74 (by kernel_rfl) rfl rfl rfl hM 1 rfl rfl 0 rfl rfl rfl rfl (by omega)) (fun _ => rfl) ?_
             intro v36 w37 hM a hA
             refine seq_do hA rfl rfl rfl (does_assign rfl) ?_
             intro a hA
             refine seq_end ?_
             refine hK13 _ _ ?_
             refine wp_region_lit ?_
             refine seq_do hA rfl rfl rfl (does_move rfl) ?_
             intro a hA
             refine seq_do (v := .int .i64 (((i + 1 : Nat) : Int))) hA rfl rfl rfl (does_bin rfl rfl (ar_add ((in_i64 (by omega) (by omega)).trans (by omega)))) ?_
             intro a hA
             refine seq_do hA rfl rfl rfl (does_assign rfl) ?_
             intro a hA
             refine seq_end ?_
             have hi8 : i < l.length := by omega
             replace hM : Mg w w37 [.row 21 1 v36 (acc ++ [l.getD (i) 0]).length (runeV (acc ++ [l.getD (i) 0]))] := by
               have h9 := hM.sub (.cons _ (.cons_cons _ (.refl _)))
               simpa [runeV] using h9
             refine hK8 _ _ _ (by omega) ⟨i + 1, acc ++ [l.getD (i) 0], v36, rfl, ⟨by rw [← hrun, plC_step hi8, piece_same (by omega) (by omega), List.append_assoc], by omega, by rw [List.length_append]; simp only [List.length_cons, List.length_nil]; omega⟩, hA.keep _ ⟨rfl, rfl, rfl, rfl, rfl, rfl, trivial⟩, hM⟩
         · have hb28' := ne_of_beq_false hb28
           refine seq_do (v := .bool false) hA rfl rfl rfl (does_bin rfl rfl (fun w => (bin_eql w).trans (by rw [hb28]))) ?_
           intro a hA
           refine seq_do (v := .bool false) hA rfl rfl rfl (does_pick rfl rfl rfl rfl) ?_
           intro a hA
           refine seq_do (v := .bool false) hA rfl rfl rfl (does_pick rfl rfl rfl rfl) ?_
           intro a hA
           refine seq_do hA rfl rfl rfl (does_assign rfl) ?_
           intro a hA
           refine seq_end ?_
           refine hK15 _ _ ?_
           refine wp_seq_k (fun K38 hK38 => ?_)
           refine wp_seq_k (fun K39 hK39 => ?_)
           refine wp_region_lit ?_
           refine seq_do hA rfl rfl rfl (does_move rfl) ?_
           intro a hA
           rcases Bool.eq_false_or_eq_true ((k != 0)) with hb40 | hb40
           · have hb40' := bne_iff_ne.1 hb40
             refine seq_do (v := .bool true) hA rfl rfl rfl (does_bin rfl rfl (fun w => (bin_neq w).trans (by rw [hb40]))) ?_
             intro a hA
             refine seq_do hA rfl rfl rfl (does_move rfl) ?_
             intro a hA
             refine seq_do hA rfl rfl rfl (does_move rfl) ?_
             intro a hA
             refine seq_do (v := .bool false) hA rfl rfl rfl (does_pick rfl rfl rfl rfl) ?_
             intro a hA
             refine seq_end ?_
             refine hK39 _ _ ?_
             refine wp_cond_false (hA.ev rfl) ?_
             refine wp_skip ?_
             refine hK38 _ _ ?_
             refine wp_seq_k (fun K41 hK41 => ?_)
             refine wp_seq_k (fun K42 hK42 => ?_)
             refine wp_region_lit ?_
             refine seq_do hA rfl rfl rfl (does_move rfl) ?_
             intro a hA
             refine seq_do (v := .bool true) hA rfl rfl rfl (does_bin rfl rfl (fun w => (bin_neq w).trans (by rw [show ((k != 0)) = true from hb40]))) ?_
             intro a hA
             refine seq_do hA rfl rfl rfl (does_move rfl) ?_
             intro a hA
             refine seq_do hA rfl rfl rfl (does_move rfl) ?_
             intro a hA
             rcases Bool.eq_false_or_eq_true ((l.getD (i) 0 == 13)) with hb43 | hb43
             · have hb43' := eq_of_beq hb43
               refine seq_do (v := .bool true) hA rfl rfl rfl (does_bin rfl rfl (fun w => (bin_eql w).trans (by rw [hb43]))) ?_
               intro a hA
               refine seq_do hA rfl rfl rfl (does_move rfl) ?_
               intro a hA
               refine seq_skip hA rfl rfl rfl ?_
               intro a hA
               refine seq_skip hA rfl rfl rfl ?_
               intro a hA
               refine seq_do (v := .bool true) hA rfl rfl rfl (does_pick rfl rfl rfl rfl) ?_
               intro a hA
               refine seq_do hA rfl rfl rfl (does_move rfl) ?_
               intro a hA
               refine seq_skip hA rfl rfl rfl ?_
               intro a hA
               refine seq_skip hA rfl rfl rfl ?_
               intro a hA
               refine seq_do (v := .bool true) hA rfl rfl rfl (does_pick rfl rfl rfl rfl) ?_
               intro a hA
               refine seq_do (v := .bool true) hA rfl rfl rfl (does_pick rfl rfl rfl rfl) ?_
               intro a hA
               refine seq_end ?_
               refine hK42 _ _ ?_
               refine wp_cond_true (hA.ev rfl) ?_
               refine wp_region_lit ?_
               refine seq_do hA rfl rfl rfl (does_assign rfl) ?_
               intro a hA
               refine seq_end ?_
               refine hK41 _ _ ?_
               refine wp_region_lit ?_
               refine seq_do hA rfl rfl rfl (does_move rfl) ?_
               intro a hA
               refine seq_do hA rfl rfl rfl (does_move rfl) ?_
               intro a hA
               refine s_litE (e := 21) (sz := 1) (m := 1) (vs := [.int .i32 10]) hA hM rfl rfl rfl (does_buildSlice rfl (by kernel_rfl)) rfl rfl (.inl (by decide)) ?_
               intro g44 w45 hM a hA
               refine s_appendE (e := 21) (sz := 1) (k := 1) (q := acc.length) (m := 1) (xs := (runeV acc)) (news := [.int .i32 10]) (L' := fun v46 => (.row 21 1 (.slice (some ⟨g44, 0, none⟩) 1 1) 1 ([.int .i32 10]) :: .row 21 1 (v46) (acc.length + 1) ((runeV acc) ++ [.int .i32 10]) :: [])) hA rfl rfl rfl (m_appendE (z := .int .i32 0) (sz := 1) (by_ := 4) Try.underlying74 (by kernel_rfl) rfl rfl rfl hM 1 rfl rfl 0 rfl rfl rfl rfl (by omega)) (fun _ => rfl) ?_
               intro v46 w47 hM a hA
               refine seq_do hA rfl rfl rfl (does_assign rfl) ?_
               intro a hA
               refine seq_end ?_
               refine hK13 _ _ ?_
               refine wp_region_lit ?_
               refine seq_do hA rfl rfl rfl (does_move rfl) ?_
               intro a hA
               refine seq_do (v := .int .i64 (((i + 1 : Nat) : Int))) hA rfl rfl rfl (does_bin rfl rfl (ar_add ((in_i64 (by omega) (by omega)).trans (by omega)))) ?_
               intro a hA
               refine seq_do hA rfl rfl rfl (does_assign rfl) ?_
               intro a hA
               refine seq_end ?_
               have hi8 : i < l.length := by omega
               replace hM : Mg w w47 [.row 21 1 v46 (acc ++ [10]).length (runeV (acc ++ [10]))] := by
                 have h9 := hM.sub (.cons _ (.cons_cons _ (.refl _)))
                 simpa [runeV] using h9
               refine hK8 _ _ _ (by omega) ⟨i + 1, acc ++ [10], v46, rfl, ⟨by rw [← hrun, plC_step hi8, piece_end (by omega) (by omega), List.append_assoc], by omega, by rw [List.length_append]; simp only [List.length_cons, List.length_nil]; omega⟩, hA.keep _ ⟨rfl, rfl, rfl, rfl, rfl, rfl, trivial⟩, hM⟩
             · have hb43' := ne_of_beq_false hb43
               refine seq_do (v := .bool false) hA rfl rfl rfl (does_bin rfl rfl (fun w => (bin_eql w).trans (by rw [hb43]))) ?_
               intro a hA
               refine seq_do hA rfl rfl rfl (does_move rfl) ?_
               intro a hA
               refine seq_do hA rfl rfl rfl (does_move rfl) ?_
               intro a hA
               refine seq_do (v := .bool false) hA rfl rfl rfl (does_bin rfl rfl (fun w => (bin_eql w).trans (by rw [show ((l.getD (i) 0 == 133)) = false from hb28]))) ?_
               intro a hA
               refine seq_do (v := .bool false) hA rfl rfl rfl (does_pick rfl rfl rfl rfl) ?_
               intro a hA
               refine seq_do hA rfl rfl rfl (does_move rfl) ?_
               intro a hA
               refine seq_do hA rfl rfl rfl (does_move rfl) ?_
               intro a hA
               rcases Bool.eq_false_or_eq_true ((l.getD (i) 0 == 8232)) with hb48 | hb48
               · have hb48' := eq_of_beq hb48
                 refine seq_do (v := .bool true) hA rfl rfl rfl (does_bin rfl rfl (fun w => (bin_eql w).trans (by rw [hb48]))) ?_
                 intro a hA
                 refine seq_do (v := .bool true) hA rfl rfl rfl (does_pick rfl rfl rfl rfl) ?_
                 intro a hA
                 refine seq_do (v := .bool true) hA rfl rfl rfl (does_pick rfl rfl rfl rfl) ?_
                 intro a hA
                 refine seq_end ?_
                 refine hK42 _ _ ?_
                 refine wp_cond_true (hA.ev rfl) ?_
                 refine wp_region_lit ?_
                 refine seq_do hA rfl rfl rfl (does_assign rfl) ?_
                 intro a hA
                 refine seq_end ?_
                 refine hK41 _ _ ?_
                 refine wp_region_lit ?_
                 refine seq_do hA rfl rfl rfl (does_move rfl) ?_
                 intro a hA
                 refine seq_do hA rfl rfl rfl (does_move rfl) ?_
                 intro a hA
                 refine s_litE (e := 21) (sz := 1) (m := 1) (vs := [.int .i32 10]) hA hM rfl rfl rfl (does_buildSlice rfl (by kernel_rfl)) rfl rfl (.inl (by decide)) ?_
                 intro g49 w50 hM a hA
                 refine s_appendE (e := 21) (sz := 1) (k := 1) (q := acc.length) (m := 1) (xs := (runeV acc)) (news := [.int .i32 10]) (L' := fun v51 => (.row 21 1 (.slice (some ⟨g49, 0, none⟩) 1 1) 1 ([.int .i32 10]) :: .row 21 1 (v51) (acc.length + 1) ((runeV acc) ++ [.int .i32 10]) :: [])) hA rfl rfl rfl (m_appendE (z := .int .i32 0) (sz := 1) (by_ := 4) Try.underlying74 (by kernel_rfl) rfl rfl rfl hM 1 rfl rfl 0 rfl rfl rfl rfl (by omega)) (fun _ => rfl) ?_
                 intro v51 w52 hM a hA
                 refine seq_do hA rfl rfl rfl (does_assign rfl) ?_
                 intro a hA
                 refine seq_end ?_
                 refine hK13 _ _ ?_
                 refine wp_region_lit ?_
                 refine seq_do hA rfl rfl rfl (does_move rfl) ?_
                 intro a hA
                 refine seq_do (v := .int .i64 (((i + 1 : Nat) : Int))) hA rfl rfl rfl (does_bin rfl rfl (ar_add ((in_i64 (by omega) (by omega)).trans (by omega)))) ?_
                 intro a hA
                 refine seq_do hA rfl rfl rfl (does_assign rfl) ?_
                 intro a hA
                 refine seq_end ?_
                 have hi8 : i < l.length := by omega
                 replace hM : Mg w w52 [.row 21 1 v51 (acc ++ [10]).length (runeV (acc ++ [10]))] := by
                   have h9 := hM.sub (.cons _ (.cons_cons _ (.refl _)))
                   simpa [runeV] using h9
                 refine hK8 _ _ _ (by omega) ⟨i + 1, acc ++ [10], v51, rfl, ⟨by rw [← hrun, plC_step hi8, piece_end (by omega) (by omega), List.append_assoc], by omega, by rw [List.length_append]; simp only [List.length_cons, List.length_nil]; omega⟩, hA.keep _ ⟨rfl, rfl, rfl, rfl, rfl, rfl, trivial⟩, hM⟩
               · have hb48' := ne_of_beq_false hb48
                 refine seq_do (v := .bool false) hA rfl rfl rfl (does_bin rfl rfl (fun w => (bin_eql w).trans (by rw [hb48]))) ?_
                 intro a hA
                 refine seq_do (v := .bool false) hA rfl rfl rfl (does_pick rfl rfl rfl rfl) ?_
                 intro a hA
                 refine seq_do (v := .bool false) hA rfl rfl rfl (does_pick rfl rfl rfl rfl) ?_
                 intro a hA
                 refine seq_end ?_
                 refine hK42 _ _ ?_
                 refine wp_cond_false (hA.ev rfl) ?_
                 refine wp_skip ?_
                 refine hK41 _ _ ?_
                 refine wp_region_lit ?_
                 refine seq_do hA rfl rfl rfl (does_move rfl) ?_
                 intro a hA
                 refine seq_do hA rfl rfl rfl (does_move rfl) ?_
                 intro a hA
                 refine s_litE (e := 21) (sz := 1) (m := 1) (vs := [.int .i32 (l.getD (i) 0)]) hA hM rfl rfl rfl (does_buildSlice rfl (by kernel_rfl)) rfl rfl (.inl (by decide)) ?_
                 intro g53 w54 hM a hA
                 refine s_appendE (e := 21) (sz := 1) (k := 1) (q := acc.length) (m := 1) (xs := (runeV acc)) (news := [.int .i32 (l.getD (i) 0)]) (L' := fun v55 => (.row 21 1 (.slice (some ⟨g53, 0, none⟩) 1 1) 1 ([.int .i32 (l.getD (i) 0)]) :: .row 21 1 (v55) (acc.length + 1) ((runeV acc) ++ [.int .i32 (l.getD (i) 0)]) :: [])) hA rfl rfl rfl (m_appendE (z := .int .i32 0) (sz := 1) (by_ := 4) Try.underlying74 (by kernel_rfl) rfl rfl rfl hM 1 rfl rfl 0 rfl rfl rfl rfl (by omega)) (fun _ => rfl) ?_
                 intro v55 w56 hM a hA
                 refine seq_do hA rfl rfl rfl (does_assign rfl) ?_
                 intro a hA
                 refine seq_end ?_
                 refine hK13 _ _ ?_
                 refine wp_region_lit ?_
                 refine seq_do hA rfl rfl rfl (does_move rfl) ?_
                 intro a hA
                 refine seq_do (v := .int .i64 (((i + 1 : Nat) : Int))) hA rfl rfl rfl (does_bin rfl rfl (ar_add ((in_i64 (by omega) (by omega)).trans (by omega)))) ?_
                 intro a hA
                 refine seq_do hA rfl rfl rfl (does_assign rfl) ?_
                 intro a hA
                 refine seq_end ?_
                 have hi8 : i < l.length := by omega
                 replace hM : Mg w w56 [.row 21 1 v55 (acc ++ [l.getD (i) 0]).length (runeV (acc ++ [l.getD (i) 0]))] := by
                   have h9 := hM.sub (.cons _ (.cons_cons _ (.refl _)))
                   simpa [runeV] using h9
                 refine hK8 _ _ _ (by omega) ⟨i + 1, acc ++ [l.getD (i) 0], v55, rfl, ⟨by rw [← hrun, plC_step hi8, piece_same (by omega) (by omega), List.append_assoc], by omega, by rw [List.length_append]; simp only [List.length_cons, List.length_nil]; omega⟩, hA.keep _ ⟨rfl, rfl, rfl, rfl, rfl, rfl, trivial⟩, hM⟩
           · have hb40' := bne_eq_false_iff_eq.1 hb40
             refine seq_do (v := .bool false) hA rfl rfl rfl (does_bin rfl rfl (fun w => (bin_neq w).trans (by rw [hb40]))) ?_
             intro a hA
             refine seq_do hA rfl rfl rfl (does_move rfl) ?_
             intro a hA
             refine seq_skip hA rfl rfl rfl ?_
             intro a hA
             refine seq_do (v := .bool false) hA rfl rfl rfl (does_pick rfl rfl rfl rfl) ?_
             intro a hA
             refine seq_end ?_
             refine hK39 _ _ ?_
             refine wp_cond_false (hA.ev rfl) ?_
             refine wp_skip ?_
             refine hK38 _ _ ?_
             refine wp_seq_k (fun K57 hK57 => ?_)
             refine wp_seq_k (fun K58 hK58 => ?_)
             refine wp_region_lit ?_
             refine seq_do hA rfl rfl rfl (does_move rfl) ?_
             intro a hA
             refine seq_do (v := .bool false) hA rfl rfl rfl (does_bin rfl rfl (fun w => (bin_neq w).trans (by rw [show ((k != 0)) = false from hb40]))) ?_
             intro a hA
             refine seq_do hA rfl rfl rfl (does_move rfl) ?_
             intro a hA
             refine seq_skip hA rfl rfl rfl ?_
             intro a hA
             refine seq_skip hA rfl rfl rfl ?_
             intro a hA
             refine seq_skip hA rfl rfl rfl ?_
             intro a hA
             refine seq_skipU hA rfl rfl rfl ?_
             intro a hA
             refine seq_skipU hA rfl rfl rfl ?_
             intro a hA
             refine seq_skip hA rfl rfl rfl ?_
             intro a hA
             refine seq_skip hA rfl rfl rfl ?_
             intro a hA
             refine seq_skipU hA rfl rfl rfl ?_
             intro a hA
             refine seq_skipU hA rfl rfl rfl ?_
             intro a hA
             refine seq_skip hA rfl rfl rfl ?_
             intro a hA
             refine seq_do (v := .bool false) hA rfl rfl rfl (does_pick rfl rfl rfl rfl) ?_
             intro a hA
             refine seq_end ?_
             refine hK58 _ _ ?_
             refine wp_cond_false (hA.ev rfl) ?_
             refine wp_skip ?_
             refine hK57 _ _ ?_
             refine wp_region_lit ?_
             refine seq_do hA rfl rfl rfl (does_move rfl) ?_
             intro a hA
             refine seq_do hA rfl rfl rfl (does_move rfl) ?_
             intro a hA
             refine s_litE (e := 21) (sz := 1) (m := 1) (vs := [.int .i32 (l.getD (i) 0)]) hA hM rfl rfl rfl (does_buildSlice rfl (by kernel_rfl)) rfl rfl (.inl (by decide)) ?_
             intro g59 w60 hM a hA
             refine s_appendE (e := 21) (sz := 1) (k := 1) (q := acc.length) (m := 1) (xs := (runeV acc)) (news := [.int .i32 (l.getD (i) 0)]) (L' := fun v61 => (.row 21 1 (.slice (some ⟨g59, 0, none⟩) 1 1) 1 ([.int .i32 (l.getD (i) 0)]) :: .row 21 1 (v61) (acc.length + 1) ((runeV acc) ++ [.int .i32 (l.getD (i) 0)]) :: [])) hA rfl rfl rfl (m_appendE (z := .int .i32 0) (sz := 1) (by_ := 4) Try.underlying74 (by kernel_rfl) rfl rfl rfl hM 1 rfl rfl 0 rfl rfl rfl rfl (by omega)) (fun _ => rfl) ?_
             intro v61 w62 hM a hA
             refine seq_do hA rfl rfl rfl (does_assign rfl) ?_
             intro a hA
             refine seq_end ?_
             refine hK13 _ _ ?_
             refine wp_region_lit ?_
             refine seq_do hA rfl rfl rfl (does_move rfl) ?_
             intro a hA
             refine seq_do (v := .int .i64 (((i + 1 : Nat) : Int))) hA rfl rfl rfl (does_bin rfl rfl (ar_add ((in_i64 (by omega) (by omega)).trans (by omega)))) ?_
             intro a hA
             refine seq_do hA rfl rfl rfl (does_assign rfl) ?_
             intro a hA
             refine seq_end ?_
             have hi8 : i < l.length := by omega
             replace hM : Mg w w62 [.row 21 1 v61 (acc ++ [l.getD (i) 0]).length (runeV (acc ++ [l.getD (i) 0]))] := by
               have h9 := hM.sub (.cons _ (.cons_cons _ (.refl _)))
               simpa [runeV] using h9
             refine hK8 _ _ _ (by omega) ⟨i + 1, acc ++ [l.getD (i) 0], v61, rfl, ⟨by rw [← hrun, plC_step hi8, piece_same (by omega) (by omega), List.append_assoc], by omega, by rw [List.length_append]; simp only [List.length_cons, List.length_nil]; omega⟩, hA.keep _ ⟨rfl, rfl, rfl, rfl, rfl, rfl, trivial⟩, hM⟩
     · have hb17' := ne_of_beq_false hb17
       refine seq_do (v := .bool false) hA rfl rfl rfl (does_bin rfl rfl (fun w => (bin_eql w).trans (by rw [hb17]))) ?_
       intro a hA
       refine seq_do (v := .bool false) hA rfl rfl rfl (does_pick rfl rfl rfl rfl) ?_
       intro a hA
       refine seq_do hA rfl rfl rfl (does_move rfl) ?_
       intro a hA
       refine seq_skip hA rfl rfl rfl ?_
       intro a hA
       refine seq_skip hA rfl rfl rfl ?_
       intro a hA
       refine seq_skip hA rfl rfl rfl ?_
       intro a hA
       refine seq_skipU hA rfl rfl rfl ?_
       intro a hA
       refine seq_skipU hA rfl rfl rfl ?_
       intro a hA
       refine seq_skip hA rfl rfl rfl ?_
       intro a hA
       refine seq_do (v := .bool false) hA rfl rfl rfl (does_pick rfl rfl rfl rfl) ?_
       intro a hA
       refine seq_do hA rfl rfl rfl (does_assign rfl) ?_
       intro a hA
       refine seq_end ?_
       refine hK15 _ _ ?_
       refine wp_seq_k (fun K63 hK63 => ?_)
       refine wp_seq_k (fun K64 hK64 => ?_)
       refine wp_region_lit ?_
       refine seq_do hA rfl rfl rfl (does_move rfl) ?_
       intro a hA
       rcases Bool.eq_false_or_eq_true ((k != 0)) with hb65 | hb65
       · have hb65' := bne_iff_ne.1 hb65
         refine seq_do (v := .bool true) hA rfl rfl rfl (does_bin rfl rfl (fun w => (bin_neq w).trans (by rw [hb65]))) ?_
         intro a hA
         refine seq_do hA rfl rfl rfl (does_move rfl) ?_
         intro a hA
         refine seq_do hA rfl rfl rfl (does_move rfl) ?_
         intro a hA
         refine seq_do (v := .bool false) hA rfl rfl rfl (does_pick rfl rfl rfl rfl) ?_
         intro a hA
         refine seq_end ?_
         refine hK64 _ _ ?_
         refine wp_cond_false (hA.ev rfl) ?_
         refine wp_skip ?_
         refine hK63 _ _ ?_
         refine wp_seq_k (fun K66 hK66 => ?_)
         refine wp_seq_k (fun K67 hK67 => ?_)
         refine wp_region_lit ?_
         refine seq_do hA rfl rfl rfl (does_move rfl) ?_
         intro a hA
         refine seq_do (v := .bool true) hA rfl rfl rfl (does_bin rfl rfl (fun w => (bin_neq w).trans (by rw [show ((k != 0)) = true from hb65]))) ?_
         intro a hA
         refine seq_do hA rfl rfl rfl (does_move rfl) ?_
         intro a hA
         refine seq_do hA rfl rfl rfl (does_move rfl) ?_
         intro a hA
         rcases Bool.eq_false_or_eq_true ((l.getD (i) 0 == 13)) with hb68 | hb68
         · have hb68' := eq_of_beq hb68
           refine seq_do (v := .bool true) hA rfl rfl rfl (does_bin rfl rfl (fun w => (bin_eql w).trans (by rw [hb68]))) ?_
           intro a hA
           refine seq_do hA rfl rfl rfl (does_move rfl) ?_
           intro a hA
           refine seq_skip hA rfl rfl rfl ?_
           intro a hA
           refine seq_skip hA rfl rfl rfl ?_
           intro a hA
           refine seq_do (v := .bool true) hA rfl rfl rfl (does_pick rfl rfl rfl rfl) ?_
           intro a hA
           refine seq_do hA rfl rfl rfl (does_move rfl) ?_
           intro a hA
           refine seq_skip hA rfl rfl rfl ?_
           intro a hA
           refine seq_skip hA rfl rfl rfl ?_
           intro a hA
           refine seq_do (v := .bool true) hA rfl rfl rfl (does_pick rfl rfl rfl rfl) ?_
           intro a hA
           refine seq_do (v := .bool true) hA rfl rfl rfl (does_pick rfl rfl rfl rfl) ?_
           intro a hA
           refine seq_end ?_
           refine hK67 _ _ ?_
           refine wp_cond_true (hA.ev rfl) ?_
           refine wp_region_lit ?_
           refine seq_do hA rfl rfl rfl (does_assign rfl) ?_
           intro a hA
           refine seq_end ?_
           refine hK66 _ _ ?_
           refine wp_region_lit ?_
           refine seq_do hA rfl rfl rfl (does_move rfl) ?_
           intro a hA
           refine seq_do hA rfl rfl rfl (does_move rfl) ?_
           intro a hA
           refine s_litE (e := 21) (sz := 1) (m := 1) (vs := [.int .i32 10]) hA hM rfl rfl rfl (does_buildSlice rfl (by kernel_rfl)) rfl rfl (.inl (by decide)) ?_
           intro g69 w70 hM a hA
           refine s_appendE (e := 21) (sz := 1) (k := 1) (q := acc.length) (m := 1) (xs := (runeV acc)) (news := [.int .i32 10]) (L' := fun v71 => (.row 21 1 (.slice (some ⟨g69, 0, none⟩) 1 1) 1 ([.int .i32 10]) :: .row 21 1 (v71) (acc.length + 1) ((runeV acc) ++ [.int .i32 10]) :: [])) hA rfl rfl rfl (m_appendE (z := .int .i32 0) (sz := 1) (by_ := 4) Try.underlying74 (by kernel_rfl) rfl rfl rfl hM 1 rfl rfl 0 rfl rfl rfl rfl (by omega)) (fun _ => rfl) ?_
           intro v71 w72 hM a hA
           refine seq_do hA rfl rfl rfl (does_assign rfl) ?_
           intro a hA
           refine seq_end ?_
           refine hK13 _ _ ?_
           refine wp_region_lit ?_
           refine seq_do hA rfl rfl rfl (does_move rfl) ?_
           intro a hA
           refine seq_do (v := .int .i64 (((i + 1 : Nat) : Int))) hA rfl rfl rfl (does_bin rfl rfl (ar_add ((in_i64 (by omega) (by omega)).trans (by omega)))) ?_
           intro a hA
           refine seq_do hA rfl rfl rfl (does_assign rfl) ?_
           intro a hA
           refine seq_end ?_
           have hi8 : i < l.length := by omega
           replace hM : Mg w w72 [.row 21 1 v71 (acc ++ [10]).length (runeV (acc ++ [10]))] := by
             have h9 := hM.sub (.cons _ (.cons_cons _ (.refl _)))
             simpa [runeV] using h9
           refine hK8 _ _ _ (by omega) ⟨i + 1, acc ++ [10], v71, rfl, ⟨by rw [← hrun, plC_step hi8, piece_end (by omega) (by omega), List.append_assoc], by omega, by rw [List.length_append]; simp only [List.length_cons, List.length_nil]; omega⟩, hA.keep _ ⟨rfl, rfl, rfl, rfl, rfl, rfl, trivial⟩, hM⟩
         · have hb68' := ne_of_beq_false hb68
           refine seq_do (v := .bool false) hA rfl rfl rfl (does_bin rfl rfl (fun w => (bin_eql w).trans (by rw [hb68]))) ?_
           intro a hA
           refine seq_do hA rfl rfl rfl (does_move rfl) ?_
           intro a hA
           refine seq_do hA rfl rfl rfl (does_move rfl) ?_
           intro a hA
           rcases Bool.eq_false_or_eq_true ((l.getD (i) 0 == 133)) with hb73 | hb73
           · have hb73' := eq_of_beq hb73
             refine seq_do (v := .bool true) hA rfl rfl rfl (does_bin rfl rfl (fun w => (bin_eql w).trans (by rw [hb73]))) ?_
             intro a hA
             refine seq_do (v := .bool true) hA rfl rfl rfl (does_pick rfl rfl rfl rfl) ?_
             intro a hA
             refine seq_do hA rfl rfl rfl (does_move rfl) ?_
             intro a hA
             refine seq_skip hA rfl rfl rfl ?_
             intro a hA
             refine seq_skip hA rfl rfl rfl ?_
             intro a hA
             refine seq_do (v := .bool true) hA rfl rfl rfl (does_pick rfl rfl rfl rfl) ?_
             intro a hA
             refine seq_do (v := .bool true) hA rfl rfl rfl (does_pick rfl rfl rfl rfl) ?_
             intro a hA
             refine seq_end ?_
             refine hK67 _ _ ?_
             refine wp_cond_true (hA.ev rfl) ?_
             refine wp_region_lit ?_
             refine seq_do hA rfl rfl rfl (does_assign rfl) ?_
             intro a hA
             refine seq_end ?_
             refine hK66 _ _ ?_
             refine wp_region_lit ?_
             refine seq_do hA rfl rfl rfl (does_move rfl) ?_
             intro a hA
             refine seq_do hA rfl rfl rfl (does_move rfl) ?_
             intro a hA
             refine s_litE (e := 21) (sz := 1) (m := 1) (vs := [.int .i32 10]) hA hM rfl rfl rfl (does_buildSlice rfl (by kernel_rfl)) rfl rfl (.inl (by decide)) ?_
             intro g74 w75 hM a hA
             refine s_appendE (e := 21) (sz := 1) (k := 1) (q := acc.length) (m := 1) (xs := (runeV acc)) (news := [.int .i32 10]) (L' := fun v76 => (.row 21 1 (.slice (some ⟨g74, 0, none⟩) 1 1) 1 ([.int .i32 10]) :: .row 21 1 (v76) (acc.length + 1) ((runeV acc) ++ [.int .i32 10]) :: [])) hA rfl rfl rfl (m_appendE (z := .int .i32 0) (sz := 1) (by_ := 4) Try.underlying74 (by kernel_rfl) rfl rfl rfl hM 1 rfl rfl 0 rfl rfl rfl rfl (by omega)) (fun _ => rfl) ?_
             intro v76 w77 hM a hA
             refine seq_do hA rfl rfl rfl (does_assign rfl) ?_
             intro a hA
             refine seq_end ?_
             refine hK13 _ _ ?_
             refine wp_region_lit ?_
             refine seq_do hA rfl rfl rfl (does_move rfl) ?_
             intro a hA
             refine seq_do (v := .int .i64 (((i + 1 : Nat) : Int))) hA rfl rfl rfl (does_bin rfl rfl (ar_add ((in_i64 (by omega) (by omega)).trans (by omega)))) ?_
             intro a hA
             refine seq_do hA rfl rfl rfl (does_assign rfl) ?_
             intro a hA
             refine seq_end ?_
             have hi8 : i < l.length := by omega
             replace hM : Mg w w77 [.row 21 1 v76 (acc ++ [10]).length (runeV (acc ++ [10]))] := by
               have h9 := hM.sub (.cons _ (.cons_cons _ (.refl _)))
               simpa [runeV] using h9
             refine hK8 _ _ _ (by omega) ⟨i + 1, acc ++ [10], v76, rfl, ⟨by rw [← hrun, plC_step hi8, piece_end (by omega) (by omega), List.append_assoc], by omega, by rw [List.length_append]; simp only [List.length_cons, List.length_nil]; omega⟩, hA.keep _ ⟨rfl, rfl, rfl, rfl, rfl, rfl, trivial⟩, hM⟩
           · have hb73' := ne_of_beq_false hb73
             refine seq_do (v := .bool false) hA rfl rfl rfl (does_bin rfl rfl (fun w => (bin_eql w).trans (by rw [hb73]))) ?_
             intro a hA
             refine seq_do (v := .bool false) hA rfl rfl rfl (does_pick rfl rfl rfl rfl) ?_
             intro a hA
             refine seq_do hA rfl rfl rfl (does_move rfl) ?_
             intro a hA
             refine seq_do hA rfl rfl rfl (does_move rfl) ?_
             intro a hA
             rcases Bool.eq_false_or_eq_true ((l.getD (i) 0 == 8232)) with hb78 | hb78
             · have hb78' := eq_of_beq hb78
               refine seq_do (v := .bool true) hA rfl rfl rfl (does_bin rfl rfl (fun w => (bin_eql w).trans (by rw [hb78]))) ?_
               intro a hA
               refine seq_do (v := .bool true) hA rfl rfl rfl (does_pick rfl rfl rfl rfl) ?_
               intro a hA
               refine seq_do (v := .bool true) hA rfl rfl rfl (does_pick rfl rfl rfl rfl) ?_
               intro a hA
               refine seq_end ?_
               refine hK67 _ _ ?_
               refine wp_cond_true (hA.ev rfl) ?_
               refine wp_region_lit ?_
               refine seq_do hA rfl rfl rfl (does_assign rfl) ?_
               intro a hA
               refine seq_end ?_
               refine hK66 _ _ ?_
               refine wp_region_lit ?_
               refine seq_do hA rfl rfl rfl (does_move rfl) ?_
               intro a hA
               refine seq_do hA rfl rfl rfl (does_move rfl) ?_
               intro a hA
               refine s_litE (e := 21) (sz := 1) (m := 1) (vs := [.int .i32 10]) hA hM rfl rfl rfl (does_buildSlice rfl (by kernel_rfl)) rfl rfl (.inl (by decide)) ?_
               intro g79 w80 hM a hA
               refine s_appendE (e := 21) (sz := 1) (k := 1) (q := acc.length) (m := 1) (xs := (runeV acc)) (news := [.int .i32 10]) (L' := fun v81 => (.row 21 1 (.slice (some ⟨g79, 0, none⟩) 1 1) 1 ([.int .i32 10]) :: .row 21 1 (v81) (acc.length + 1) ((runeV acc) ++ [.int .i32 10]) :: [])) hA rfl rfl rfl (m_appendE (z := .int .i32 0) (sz := 1) (by_ := 4) Try.underlying74 (by kernel_rfl) rfl rfl rfl hM 1 rfl rfl 0 rfl rfl rfl rfl (by omega)) (fun _ => rfl) ?_
               intro v81 w82 hM a hA
               refine seq_do hA rfl rfl rfl (does_assign rfl) ?_
               intro a hA
               refine seq_end ?_
               refine hK13 _ _ ?_
               refine wp_region_lit ?_
               refine seq_do hA rfl rfl rfl (does_move rfl) ?_
               intro a hA
               refine seq_do (v := .int .i64 (((i + 1 : Nat) : Int))) hA rfl rfl rfl (does_bin rfl rfl (ar_add ((in_i64 (by omega) (by omega)).trans (by omega)))) ?_
               intro a hA
               refine seq_do hA rfl rfl rfl (does_assign rfl) ?_
               intro a hA
               refine seq_end ?_
               have hi8 : i < l.length := by omega
               replace hM : Mg w w82 [.row 21 1 v81 (acc ++ [10]).length (runeV (acc ++ [10]))] := by
                 have h9 := hM.sub (.cons _ (.cons_cons _ (.refl _)))
                 simpa [runeV] using h9
               refine hK8 _ _ _ (by omega) ⟨i + 1, acc ++ [10], v81, rfl, ⟨by rw [← hrun, plC_step hi8, piece_end (by omega) (by omega), List.append_assoc], by omega, by rw [List.length_append]; simp only [List.length_cons, List.length_nil]; omega⟩, hA.keep _ ⟨rfl, rfl, rfl, rfl, rfl, rfl, trivial⟩, hM⟩
             · have hb78' := ne_of_beq_false hb78
               refine seq_do (v := .bool false) hA rfl rfl rfl (does_bin rfl rfl (fun w => (bin_eql w).trans (by rw [hb78]))) ?_
               intro a hA
               refine seq_do (v := .bool false) hA rfl rfl rfl (does_pick rfl rfl rfl rfl) ?_
               intro a hA
               refine seq_do (v := .bool false) hA rfl rfl rfl (does_pick rfl rfl rfl rfl) ?_
               intro a hA
               refine seq_end ?_
               refine hK67 _ _ ?_
               refine wp_cond_false (hA.ev rfl) ?_
               refine wp_skip ?_
               refine hK66 _ _ ?_
               refine wp_region_lit ?_
               refine seq_do hA rfl rfl rfl (does_move rfl) ?_
               intro a hA
               refine seq_do hA rfl rfl rfl (does_move rfl) ?_
               intro a hA
               refine s_litE (e := 21) (sz := 1) (m := 1) (vs := [.int .i32 (l.getD (i) 0)]) hA hM rfl rfl rfl (does_buildSlice rfl (by kernel_rfl)) rfl rfl (.inl (by decide)) ?_
               intro g83 w84 hM a hA
               refine s_appendE (e := 21) (sz := 1) (k := 1) (q := acc.length) (m := 1) (xs := (runeV acc)) (news := [.int .i32 (l.getD (i) 0)]) (L' := fun v85 => (.row 21 1 (.slice (some ⟨g83, 0, none⟩) 1 1) 1 ([.int .i32 (l.getD (i) 0)]) :: .row 21 1 (v85) (acc.length + 1) ((runeV acc) ++ [.int .i32 (l.getD (i) 0)]) :: [])) hA rfl rfl rfl (m_appendE (z := .int .i32 0) (sz := 1) (by_ := 4) Try.underlying74 (by kernel_rfl) rfl rfl rfl hM 1 rfl rfl 0 rfl rfl rfl rfl (by omega)) (fun _ => rfl) ?_
               intro v85 w86 hM a hA
               refine seq_do hA rfl rfl rfl (does_assign rfl) ?_
               intro a hA
               refine seq_end ?_
               refine hK13 _ _ ?_
               refine wp_region_lit ?_
               refine seq_do hA rfl rfl rfl (does_move rfl) ?_
               intro a hA
               refine seq_do (v := .int .i64 (((i + 1 : Nat) : Int))) hA rfl rfl rfl (does_bin rfl rfl (ar_add ((in_i64 (by omega) (by omega)).trans (by omega)))) ?_
               intro a hA
               refine seq_do hA rfl rfl rfl (does_assign rfl) ?_
               intro a hA
               refine seq_end ?_
               have hi8 : i < l.length := by omega
               replace hM : Mg w w86 [.row 21 1 v85 (acc ++ [l.getD (i) 0]).length (runeV (acc ++ [l.getD (i) 0]))] := by
                 have h9 := hM.sub (.cons _ (.cons_cons _ (.refl _)))
                 simpa [runeV] using h9
               refine hK8 _ _ _ (by omega) ⟨i + 1, acc ++ [l.getD (i) 0], v85, rfl, ⟨by rw [← hrun, plC_step hi8, piece_same (by omega) (by omega), List.append_assoc], by omega, by rw [List.length_append]; simp only [List.length_cons, List.length_nil]; omega⟩, hA.keep _ ⟨rfl, rfl, rfl, rfl, rfl, rfl, trivial⟩, hM⟩
       · have hb65' := bne_eq_false_iff_eq.1 hb65
         refine seq_do (v := .bool false) hA rfl rfl rfl (does_bin rfl rfl (fun w => (bin_neq w).trans (by rw [hb65]))) ?_
         intro a hA
         refine seq_do hA rfl rfl rfl (does_move rfl) ?_
         intro a hA
         refine seq_skip hA rfl rfl rfl ?_
         intro a hA
         refine seq_do (v := .bool false) hA rfl rfl rfl (does_pick rfl rfl rfl rfl) ?_
         intro a hA
         refine seq_end ?_
         refine hK64 _ _ ?_
         refine wp_cond_false (hA.ev rfl) ?_
         refine wp_skip ?_
         refine hK63 _ _ ?_
         refine wp_seq_k (fun K87 hK87 => ?_)
         refine wp_seq_k (fun K88 hK88 => ?_)
         refine wp_region_lit ?_
         refine seq_do hA rfl rfl rfl (does_move rfl) ?_
         intro a hA
         refine seq_do (v := .bool false) hA rfl rfl rfl (does_bin rfl rfl (fun w => (bin_neq w).trans (by rw [show ((k != 0)) = false from hb65]))) ?_
         intro a hA
         refine seq_do hA rfl rfl rfl (does_move rfl) ?_
         intro a hA
         refine seq_skip hA rfl rfl rfl ?_
         intro a hA
         refine seq_skip hA rfl rfl rfl ?_
         intro a hA
         refine seq_skip hA rfl rfl rfl ?_
         intro a hA
         refine seq_skipU hA rfl rfl rfl ?_
         intro a hA
         refine seq_skipU hA rfl rfl rfl ?_
         intro a hA
         refine seq_skip hA rfl rfl rfl ?_
         intro a hA
         refine seq_skip hA rfl rfl rfl ?_
         intro a hA
         refine seq_skipU hA rfl rfl rfl ?_
         intro a hA
         refine seq_skipU hA rfl rfl rfl ?_
         intro a hA
         refine seq_skip hA rfl rfl rfl ?_
         intro a hA
         refine seq_do (v := .bool false) hA rfl rfl rfl (does_pick rfl rfl rfl rfl) ?_
         intro a hA
         refine seq_end ?_
         refine hK88 _ _ ?_
         refine wp_cond_false (hA.ev rfl) ?_
         refine wp_skip ?_
         refine hK87 _ _ ?_
         refine wp_region_lit ?_
         refine seq_do hA rfl rfl rfl (does_move rfl) ?_
         intro a hA
         refine seq_do hA rfl rfl rfl (does_move rfl) ?_
         intro a hA
         refine s_litE (e := 21) (sz := 1) (m := 1) (vs := [.int .i32 (l.getD (i) 0)]) hA hM rfl rfl rfl (does_buildSlice rfl (by kernel_rfl)) rfl rfl (.inl (by decide)) ?_
         intro g89 w90 hM a hA
         refine s_appendE (e := 21) (sz := 1) (k := 1) (q := acc.length) (m := 1) (xs := (runeV acc)) (news := [.int .i32 (l.getD (i) 0)]) (L' := fun v91 => (.row 21 1 (.slice (some ⟨g89, 0, none⟩) 1 1) 1 ([.int .i32 (l.getD (i) 0)]) :: .row 21 1 (v91) (acc.length + 1) ((runeV acc) ++ [.int .i32 (l.getD (i) 0)]) :: [])) hA rfl rfl rfl (m_appendE (z := .int .i32 0) (sz := 1) (by_ := 4) Try.underlying74 (by kernel_rfl) rfl rfl rfl hM 1 rfl rfl 0 rfl rfl rfl rfl (by omega)) (fun _ => rfl) ?_
         intro v91 w92 hM a hA
         refine seq_do hA rfl rfl rfl (does_assign rfl) ?_
         intro a hA
         refine seq_end ?_
         refine hK13 _ _ ?_
         refine wp_region_lit ?_
         refine seq_do hA rfl rfl rfl (does_move rfl) ?_
         intro a hA
         refine seq_do (v := .int .i64 (((i + 1 : Nat) : Int))) hA rfl rfl rfl (does_bin rfl rfl (ar_add ((in_i64 (by omega) (by omega)).trans (by omega)))) ?_
         intro a hA
         refine seq_do hA rfl rfl rfl (does_assign rfl) ?_
         intro a hA
         refine seq_end ?_
         have hi8 : i < l.length := by omega
         replace hM : Mg w w92 [.row 21 1 v91 (acc ++ [l.getD (i) 0]).length (runeV (acc ++ [l.getD (i) 0]))] := by
           have h9 := hM.sub (.cons _ (.cons_cons _ (.refl _)))
           simpa [runeV] using h9
         refine hK8 _ _ _ (by omega) ⟨i + 1, acc ++ [l.getD (i) 0], v91, rfl, ⟨by rw [← hrun, plC_step hi8, piece_same (by omega) (by omega), List.append_assoc], by omega, by rw [List.length_append]; simp only [List.length_cons, List.length_nil]; omega⟩, hA.keep _ ⟨rfl, rfl, rfl, rfl, rfl, rfl, trivial⟩, hM⟩
   · have hb16' := of_decide_eq_false hb16
     refine seq_do (v := .bool false) hA rfl rfl rfl (does_bin rfl rfl (fun w => (bin_gtr w).trans (by rw [hb16]))) ?_
     intro a hA
     refine seq_do hA rfl rfl rfl (does_move rfl) ?_
     intro a hA
     refine seq_skip hA rfl rfl rfl ?_
     intro a hA
     refine seq_skip hA rfl rfl rfl ?_
     intro a hA
     refine seq_skip hA rfl rfl rfl ?_
     intro a hA
     refine seq_skip hA rfl rfl rfl ?_
     intro a hA
     refine seq_skip hA rfl rfl rfl ?_
     intro a hA
     refine seq_skip hA rfl rfl rfl ?_
     intro a hA
     refine seq_do (v := .bool false) hA rfl rfl rfl (does_pick rfl rfl rfl rfl) ?_
     intro a hA
     refine seq_do hA rfl rfl rfl (does_move rfl) ?_
     intro a hA
     refine seq_skip hA rfl rfl rfl ?_
     intro a hA
     refine seq_skip hA rfl rfl rfl ?_
     intro a hA
     refine seq_skip hA rfl rfl rfl ?_
     intro a hA
     refine seq_skipU hA rfl rfl rfl ?_
     intro a hA
     refine seq_skipU hA rfl rfl rfl ?_
     intro a hA
     refine seq_skip hA rfl rfl rfl ?_
     intro a hA
     refine seq_do (v := .bool false) hA rfl rfl rfl (does_pick rfl rfl rfl rfl) ?_
     intro a hA
     refine seq_do hA rfl rfl rfl (does_assign rfl) ?_
     intro a hA
     refine seq_end ?_
     refine hK15 _ _ ?_
     refine wp_seq_k (fun K93 hK93 => ?_)
     refine wp_seq_k (fun K94 hK94 => ?_)
     refine wp_region_lit ?_
     refine seq_do hA rfl rfl rfl (does_move rfl) ?_
     intro a hA
     rcases Bool.eq_false_or_eq_true ((k != 0)) with hb95 | hb95
     · have hb95' := bne_iff_ne.1 hb95
       refine seq_do (v := .bool true) hA rfl rfl rfl (does_bin rfl rfl (fun w => (bin_neq w).trans (by rw [hb95]))) ?_
       intro a hA
       refine seq_do hA rfl rfl rfl (does_move rfl) ?_
       intro a hA
       refine seq_do hA rfl rfl rfl (does_move rfl) ?_
       intro a hA
       refine seq_do (v := .bool false) hA rfl rfl rfl (does_pick rfl rfl rfl rfl) ?_
       intro a hA
       refine seq_end ?_
       refine hK94 _ _ ?_
       refine wp_cond_false (hA.ev rfl) ?_
       refine wp_skip ?_
       refine hK93 _ _ ?_
       refine wp_seq_k (fun K96 hK96 => ?_)
       refine wp_seq_k (fun K97 hK97 => ?_)
       refine wp_region_lit ?_
       refine seq_do hA rfl rfl rfl (does_move rfl) ?_
       intro a hA
       refine seq_do (v := .bool true) hA rfl rfl rfl (does_bin rfl rfl (fun w => (bin_neq w).trans (by rw [show ((k != 0)) = true from hb95]))) ?_
       intro a hA
       refine seq_do hA rfl rfl rfl (does_move rfl) ?_
       intro a hA
       refine seq_do hA rfl rfl rfl (does_move rfl) ?_
       intro a hA
       rcases Bool.eq_false_or_eq_true ((l.getD (i) 0 == 13)) with hb98 | hb98
       · have hb98' := eq_of_beq hb98
         refine seq_do (v := .bool true) hA rfl rfl rfl (does_bin rfl rfl (fun w => (bin_eql w).trans (by rw [hb98]))) ?_
         intro a hA
         refine seq_do hA rfl rfl rfl (does_move rfl) ?_
         intro a hA
         refine seq_skip hA rfl rfl rfl ?_
         intro a hA
         refine seq_skip hA rfl rfl rfl ?_
         intro a hA
         refine seq_do (v := .bool true) hA rfl rfl rfl (does_pick rfl rfl rfl rfl) ?_
         intro a hA
         refine seq_do hA rfl rfl rfl (does_move rfl) ?_
         intro a hA
         refine seq_skip hA rfl rfl rfl ?_
         intro a hA
         refine seq_skip hA rfl rfl rfl ?_
         intro a hA
         refine seq_do (v := .bool true) hA rfl rfl rfl (does_pick rfl rfl rfl rfl) ?_
         intro a hA
         refine seq_do (v := .bool true) hA rfl rfl rfl (does_pick rfl rfl rfl rfl) ?_
         intro a hA
         refine seq_end ?_
         refine hK97 _ _ ?_
         refine wp_cond_true (hA.ev rfl) ?_
         refine wp_region_lit ?_
         refine seq_do hA rfl rfl rfl (does_assign rfl) ?_
         intro a hA
         refine seq_end ?_
         refine hK96 _ _ ?_
         refine wp_region_lit ?_
         refine seq_do hA rfl rfl rfl (does_move rfl) ?_
         intro a hA
         refine seq_do hA rfl rfl rfl (does_move rfl) ?_
         intro a hA
         refine s_litE (e := 21) (sz := 1) (m := 1) (vs := [.int .i32 10]) hA hM rfl rfl rfl (does_buildSlice rfl (by kernel_rfl)) rfl rfl (.inl (by decide)) ?_
         intro g99 w100 hM a hA
         refine s_appendE (e := 21) (sz := 1) (k := 1) (q := acc.length) (m := 1) (xs := (runeV acc)) (news := [.int .i32 10]) (L' := fun v101 => (.row 21 1 (.slice (some ⟨g99, 0, none⟩) 1 1) 1 ([.int .i32 10]) :: .row 21 1 (v101) (acc.length + 1) ((runeV acc) ++ [.int .i32 10]) :: [])) hA rfl rfl rfl (m_appendE (z := .int .i32 0) (sz := 1) (by_ := 4) Try.underlying74 (by kernel_rfl) rfl rfl rfl hM 1 rfl rfl 0 rfl rfl rfl rfl (by omega)) (fun _ => rfl) ?_
         intro v101 w102 hM a hA
         refine seq_do hA rfl rfl rfl (does_assign rfl) ?_
         intro a hA
         refine seq_end ?_
         refine hK13 _ _ ?_
         refine wp_region_lit ?_
         refine seq_do hA rfl rfl rfl (does_move rfl) ?_
         intro a hA
         refine seq_do (v := .int .i64 (((i + 1 : Nat) : Int))) hA rfl rfl rfl (does_bin rfl rfl (ar_add ((in_i64 (by omega) (by omega)).trans (by omega)))) ?_
         intro a hA
         refine seq_do hA rfl rfl rfl (does_assign rfl) ?_
         intro a hA
         refine seq_end ?_
         have hi8 : i < l.length := by omega
         replace hM : Mg w w102 [.row 21 1 v101 (acc ++ [10]).length (runeV (acc ++ [10]))] := by
           have h9 := hM.sub (.cons _ (.cons_cons _ (.refl _)))
           simpa [runeV] using h9
         refine hK8 _ _ _ (by omega) ⟨i + 1, acc ++ [10], v101, rfl, ⟨by rw [← hrun, plC_step hi8, piece_end (by omega) (by omega), List.append_assoc], by omega, by rw [List.length_append]; simp only [List.length_cons, List.length_nil]; omega⟩, hA.keep _ ⟨rfl, rfl, rfl, rfl, rfl, rfl, trivial⟩, hM⟩
       · have hb98' := ne_of_beq_false hb98
         refine seq_do (v := .bool false) hA rfl rfl rfl (does_bin rfl rfl (fun w => (bin_eql w).trans (by rw [hb98]))) ?_
         intro a hA
         refine seq_do hA rfl rfl rfl (does_move rfl) ?_
         intro a hA
         refine seq_do hA rfl rfl rfl (does_move rfl) ?_
         intro a hA
         rcases Bool.eq_false_or_eq_true ((l.getD (i) 0 == 133)) with hb103 | hb103
         · have hb103' := eq_of_beq hb103
           refine seq_do (v := .bool true) hA rfl rfl rfl (does_bin rfl rfl (fun w => (bin_eql w).trans (by rw [hb103]))) ?_
           intro a hA
           refine seq_do (v := .bool true) hA rfl rfl rfl (does_pick rfl rfl rfl rfl) ?_
           intro a hA
           refine seq_do hA rfl rfl rfl (does_move rfl) ?_
           intro a hA
           refine seq_skip hA rfl rfl rfl ?_
           intro a hA
           refine seq_skip hA rfl rfl rfl ?_
           intro a hA
           refine seq_do (v := .bool true) hA rfl rfl rfl (does_pick rfl rfl rfl rfl) ?_
           intro a hA
           refine seq_do (v := .bool true) hA rfl rfl rfl (does_pick rfl rfl rfl rfl) ?_
           intro a hA
           refine seq_end ?_
           refine hK97 _ _ ?_
           refine wp_cond_true (hA.ev rfl) ?_
           refine wp_region_lit ?_
           refine seq_do hA rfl rfl rfl (does_assign rfl) ?_
           intro a hA
           refine seq_end ?_
           refine hK96 _ _ ?_
           refine wp_region_lit ?_
           refine seq_do hA rfl rfl rfl (does_move rfl) ?_
           intro a hA
           refine seq_do hA rfl rfl rfl (does_move rfl) ?_
           intro a hA
           refine s_litE (e := 21) (sz := 1) (m := 1) (vs := [.int .i32 10]) hA hM rfl rfl rfl (does_buildSlice rfl (by kernel_rfl)) rfl rfl (.inl (by decide)) ?_
           intro g104 w105 hM a hA
           refine s_appendE (e := 21) (sz := 1) (k := 1) (q := acc.length) (m := 1) (xs := (runeV acc)) (news := [.int .i32 10]) (L' := fun v106 => (.row 21 1 (.slice (some ⟨g104, 0, none⟩) 1 1) 1 ([.int .i32 10]) :: .row 21 1 (v106) (acc.length + 1) ((runeV acc) ++ [.int .i32 10]) :: [])) hA rfl rfl rfl (m_appendE (z := .int .i32 0) (sz := 1) (by_ := 4) Try.underlying74 (by kernel_rfl) rfl rfl rfl hM 1 rfl rfl 0 rfl rfl rfl rfl (by omega)) (fun _ => rfl) ?_
           intro v106 w107 hM a hA
           refine seq_do hA rfl rfl rfl (does_assign rfl) ?_
           intro a hA
           refine seq_end ?_
           refine hK13 _ _ ?_
           refine wp_region_lit ?_
           refine seq_do hA rfl rfl rfl (does_move rfl) ?_
           intro a hA
           refine seq_do (v := .int .i64 (((i + 1 : Nat) : Int))) hA rfl rfl rfl (does_bin rfl rfl (ar_add ((in_i64 (by omega) (by omega)).trans (by omega)))) ?_
           intro a hA
           refine seq_do hA rfl rfl rfl (does_assign rfl) ?_
           intro a hA
           refine seq_end ?_
           have hi8 : i < l.length := by omega
           replace hM : Mg w w107 [.row 21 1 v106 (acc ++ [10]).length (runeV (acc ++ [10]))] := by
             have h9 := hM.sub (.cons _ (.cons_cons _ (.refl _)))
             simpa [runeV] using h9
           refine hK8 _ _ _ (by omega) ⟨i + 1, acc ++ [10], v106, rfl, ⟨by rw [← hrun, plC_step hi8, piece_end (by omega) (by omega), List.append_assoc], by omega, by rw [List.length_append]; simp only [List.length_cons, List.length_nil]; omega⟩, hA.keep _ ⟨rfl, rfl, rfl, rfl, rfl, rfl, trivial⟩, hM⟩
         · have hb103' := ne_of_beq_false hb103
           refine seq_do (v := .bool false) hA rfl rfl rfl (does_bin rfl rfl (fun w => (bin_eql w).trans (by rw [hb103]))) ?_
           intro a hA
           refine seq_do (v := .bool false) hA rfl rfl rfl (does_pick rfl rfl rfl rfl) ?_
           intro a hA
           refine seq_do hA rfl rfl rfl (does_move rfl) ?_
           intro a hA
           refine seq_do hA rfl rfl rfl (does_move rfl) ?_
           intro a hA
           rcases Bool.eq_false_or_eq_true ((l.getD (i) 0 == 8232)) with hb108 | hb108
           · have hb108' := eq_of_beq hb108
             refine seq_do (v := .bool true) hA rfl rfl rfl (does_bin rfl rfl (fun w => (bin_eql w).trans (by rw [hb108]))) ?_
             intro a hA
             refine seq_do (v := .bool true) hA rfl rfl rfl (does_pick rfl rfl rfl rfl) ?_
             intro a hA
             refine seq_do (v := .bool true) hA rfl rfl rfl (does_pick rfl rfl rfl rfl) ?_
             intro a hA
             refine seq_end ?_
             refine hK97 _ _ ?_
             refine wp_cond_true (hA.ev rfl) ?_
             refine wp_region_lit ?_
             refine seq_do hA rfl rfl rfl (does_assign rfl) ?_
             intro a hA
             refine seq_end ?_
             refine hK96 _ _ ?_
             refine wp_region_lit ?_
             refine seq_do hA rfl rfl rfl (does_move rfl) ?_
             intro a hA
             refine seq_do hA rfl rfl rfl (does_move rfl) ?_
             intro a hA
             refine s_litE (e := 21) (sz := 1) (m := 1) (vs := [.int .i32 10]) hA hM rfl rfl rfl (does_buildSlice rfl (by kernel_rfl)) rfl rfl (.inl (by decide)) ?_
             intro g109 w110 hM a hA
             refine s_appendE (e := 21) (sz := 1) (k := 1) (q := acc.length) (m := 1) (xs := (runeV acc)) (news := [.int .i32 10]) (L' := fun v111 => (.row 21 1 (.slice (some ⟨g109, 0, none⟩) 1 1) 1 ([.int .i32 10]) :: .row 21 1 (v111) (acc.length + 1) ((runeV acc) ++ [.int .i32 10]) :: [])) hA rfl rfl rfl (m_appendE (z := .int .i32 0) (sz := 1) (by_ := 4) Try.underlying74 (by kernel_rfl) rfl rfl rfl hM 1 rfl rfl 0 rfl rfl rfl rfl (by omega)) (fun _ => rfl) ?_
             intro v111 w112 hM a hA
             refine seq_do hA rfl rfl rfl (does_assign rfl) ?_
             intro a hA
             refine seq_end ?_
             refine hK13 _ _ ?_
             refine wp_region_lit ?_
             refine seq_do hA rfl rfl rfl (does_move rfl) ?_
             intro a hA
             refine seq_do (v := .int .i64 (((i + 1 : Nat) : Int))) hA rfl rfl rfl (does_bin rfl rfl (ar_add ((in_i64 (by omega) (by omega)).trans (by omega)))) ?_
             intro a hA
             refine seq_do hA rfl rfl rfl (does_assign rfl) ?_
             intro a hA
             refine seq_end ?_
             have hi8 : i < l.length := by omega
             replace hM : Mg w w112 [.row 21 1 v111 (acc ++ [10]).length (runeV (acc ++ [10]))] := by
               have h9 := hM.sub (.cons _ (.cons_cons _ (.refl _)))
               simpa [runeV] using h9
             refine hK8 _ _ _ (by omega) ⟨i + 1, acc ++ [10], v111, rfl, ⟨by rw [← hrun, plC_step hi8, piece_end (by omega) (by omega), List.append_assoc], by omega, by rw [List.length_append]; simp only [List.length_cons, List.length_nil]; omega⟩, hA.keep _ ⟨rfl, rfl, rfl, rfl, rfl, rfl, trivial⟩, hM⟩
           · have hb108' := ne_of_beq_false hb108
             refine seq_do (v := .bool false) hA rfl rfl rfl (does_bin rfl rfl (fun w => (bin_eql w).trans (by rw [hb108]))) ?_
             intro a hA
             refine seq_do (v := .bool false) hA rfl rfl rfl (does_pick rfl rfl rfl rfl) ?_
             intro a hA
             refine seq_do (v := .bool false) hA rfl rfl rfl (does_pick rfl rfl rfl rfl) ?_
             intro a hA
             refine seq_end ?_
             refine hK97 _ _ ?_
             refine wp_cond_false (hA.ev rfl) ?_
             refine wp_skip ?_
             refine hK96 _ _ ?_
             refine wp_region_lit ?_
             refine seq_do hA rfl rfl rfl (does_move rfl) ?_
             intro a hA
             refine seq_do hA rfl rfl rfl (does_move rfl) ?_
             intro a hA
             refine s_litE (e := 21) (sz := 1) (m := 1) (vs := [.int .i32 (l.getD (i) 0)]) hA hM rfl rfl rfl (does_buildSlice rfl (by kernel_rfl)) rfl rfl (.inl (by decide)) ?_
             intro g113 w114 hM a hA
             refine s_appendE (e := 21) (sz := 1) (k := 1) (q := acc.length) (m := 1) (xs := (runeV acc)) (news := [.int .i32 (l.getD (i) 0)]) (L' := fun v115 => (.row 21 1 (.slice (some ⟨g113, 0, none⟩) 1 1) 1 ([.int .i32 (l.getD (i) 0)]) :: .row 21 1 (v115) (acc.length + 1) ((runeV acc) ++ [.int .i32 (l.getD (i) 0)]) :: [])) hA rfl rfl rfl (m_appendE (z := .int .i32 0) (sz := 1) (by_ := 4) Try.underlying74 (by kernel_rfl) rfl rfl rfl hM 1 rfl rfl 0 rfl rfl rfl rfl (by omega)) (fun _ => rfl) ?_
             intro v115 w116 hM a hA
             refine seq_do hA rfl rfl rfl (does_assign rfl) ?_
             intro a hA
             refine seq_end ?_
             refine hK13 _ _ ?_
             refine wp_region_lit ?_
             refine seq_do hA rfl rfl rfl (does_move rfl) ?_
             intro a hA
             refine seq_do (v := .int .i64 (((i + 1 : Nat) : Int))) hA rfl rfl rfl (does_bin rfl rfl (ar_add ((in_i64 (by omega) (by omega)).trans (by omega)))) ?_
             intro a hA
             refine seq_do hA rfl rfl rfl (does_assign rfl) ?_
             intro a hA
             refine seq_end ?_
             have hi8 : i < l.length := by omega
             replace hM : Mg w w116 [.row 21 1 v115 (acc ++ [l.getD (i) 0]).length (runeV (acc ++ [l.getD (i) 0]))] := by
               have h9 := hM.sub (.cons _ (.cons_cons _ (.refl _)))
               simpa [runeV] using h9
             refine hK8 _ _ _ (by omega) ⟨i + 1, acc ++ [l.getD (i) 0], v115, rfl, ⟨by rw [← hrun, plC_step hi8, piece_same (by omega) (by omega), List.append_assoc], by omega, by rw [List.length_append]; simp only [List.length_cons, List.length_nil]; omega⟩, hA.keep _ ⟨rfl, rfl, rfl, rfl, rfl, rfl, trivial⟩, hM⟩
     · have hb95' := bne_eq_false_iff_eq.1 hb95
       refine seq_do (v := .bool false) hA rfl rfl rfl (does_bin rfl rfl (fun w => (bin_neq w).trans (by rw [hb95]))) ?_
       intro a hA
       refine seq_do hA rfl rfl rfl (does_move rfl) ?_
       intro a hA
       refine seq_skip hA rfl rfl rfl ?_
       intro a hA
       refine seq_do (v := .bool false) hA rfl rfl rfl (does_pick rfl rfl rfl rfl) ?_
       intro a hA
       refine seq_end ?_
       refine hK94 _ _ ?_
       refine wp_cond_false (hA.ev rfl) ?_
       refine wp_skip ?_
       refine hK93 _ _ ?_
       refine wp_seq_k (fun K117 hK117 => ?_)
       refine wp_seq_k (fun K118 hK118 => ?_)
       refine wp_region_lit ?_
       refine seq_do hA rfl rfl rfl (does_move rfl) ?_
       intro a hA
       refine seq_do (v := .bool false) hA rfl rfl rfl (does_bin rfl rfl (fun w => (bin_neq w).trans (by rw [show ((k != 0)) = false from hb95]))) ?_
       intro a hA
       refine seq_do hA rfl rfl rfl (does_move rfl) ?_
       intro a hA
       refine seq_skip hA rfl rfl rfl ?_
       intro a hA
       refine seq_skip hA rfl rfl rfl ?_
       intro a hA
       refine seq_skip hA rfl rfl rfl ?_
       intro a hA
       refine seq_skipU hA rfl rfl rfl ?_
       intro a hA
       refine seq_skipU hA rfl rfl rfl ?_
       intro a hA
       refine seq_skip hA rfl rfl rfl ?_
       intro a hA
       refine seq_skip hA rfl rfl rfl ?_
       intro a hA
       refine seq_skipU hA rfl rfl rfl ?_
       intro a hA
       refine seq_skipU hA rfl rfl rfl ?_
       intro a hA
       refine seq_skip hA rfl rfl rfl ?_
       intro a hA
       refine seq_do (v := .bool false) hA rfl rfl rfl (does_pick rfl rfl rfl rfl) ?_
       intro a hA
       refine seq_end ?_
       refine hK118 _ _ ?_
       refine wp_cond_false (hA.ev rfl) ?_
       refine wp_skip ?_
       refine hK117 _ _ ?_
       refine wp_region_lit ?_
       refine seq_do hA rfl rfl rfl (does_move rfl) ?_
       intro a hA
       refine seq_do hA rfl rfl rfl (does_move rfl) ?_
       intro a hA
       refine s_litE (e := 21) (sz := 1) (m := 1) (vs := [.int .i32 (l.getD (i) 0)]) hA hM rfl rfl rfl (does_buildSlice rfl (by kernel_rfl)) rfl rfl (.inl (by decide)) ?_
       intro g119 w120 hM a hA
       refine s_appendE (e := 21) (sz := 1) (k := 1) (q := acc.length) (m := 1) (xs := (runeV acc)) (news := [.int .i32 (l.getD (i) 0)]) (L' := fun v121 => (.row 21 1 (.slice (some ⟨g119, 0, none⟩) 1 1) 1 ([.int .i32 (l.getD (i) 0)]) :: .row 21 1 (v121) (acc.length + 1) ((runeV acc) ++ [.int .i32 (l.getD (i) 0)]) :: [])) hA rfl rfl rfl (m_appendE (z := .int .i32 0) (sz := 1) (by_ := 4) Try.underlying74 (by kernel_rfl) rfl rfl rfl hM 1 rfl rfl 0 rfl rfl rfl rfl (by omega)) (fun _ => rfl) ?_
       intro v121 w122 hM a hA
       refine seq_do hA rfl rfl rfl (does_assign rfl) ?_
       intro a hA
       refine seq_end ?_
       refine hK13 _ _ ?_
       refine wp_region_lit ?_
       refine seq_do hA rfl rfl rfl (does_move rfl) ?_
       intro a hA
       refine seq_do (v := .int .i64 (((i + 1 : Nat) : Int))) hA rfl rfl rfl (does_bin rfl rfl (ar_add ((in_i64 (by omega) (by omega)).trans (by omega)))) ?_
       intro a hA
       refine seq_do hA rfl rfl rfl (does_assign rfl) ?_
       intro a hA
       refine seq_end ?_
       have hi8 : i < l.length := by omega
       replace hM : Mg w w122 [.row 21 1 v121 (acc ++ [l.getD (i) 0]).length (runeV (acc ++ [l.getD (i) 0]))] := by
         have h9 := hM.sub (.cons _ (.cons_cons _ (.refl _)))
         simpa [runeV] using h9
       refine hK8 _ _ _ (by omega) ⟨i + 1, acc ++ [l.getD (i) 0], v121, rfl, ⟨by rw [← hrun, plC_step hi8, piece_same (by omega) (by omega), List.append_assoc], by omega, by rw [List.length_append]; simp only [List.length_cons, List.length_nil]; omega⟩, hA.keep _ ⟨rfl, rfl, rfl, rfl, rfl, rfl, trivial⟩, hM⟩
 · have hb12' := of_decide_eq_false hb12
   refine seq_do (v := .bool false) hA rfl rfl rfl (does_bin rfl rfl (fun w => (bin_lss w).trans (by rw [hb12]))) ?_
   intro a hA
   refine seq_end ?_
   refine hK11 _ _ ?_
   refine wp_cond_false (hA.ev rfl) ?_
   refine wp_exit ?_
   refine hK5 _ _ ?_
   refine wp_seq_k (fun K123 hK123 => ?_)
   refine wp_region_lit ?_
   refine seq_do hA rfl rfl rfl (does_move rfl) ?_
   intro a hA
   refine seq_do hA rfl rfl rfl (does_assign rfl) ?_
   intro a hA
   refine seq_end ?_
   refine hK123 _ _ ?_
   refine wp_ret ?_
   refine hret _ _ ?_
   refine ends (v := vo) hA rfl (.cons (res_tmp rfl) .nil) rfl ?_
   rw [plC_over (by omega), List.append_nil] at hrun
   subst hrun
   exact ⟨_, rfl, hM⟩
end Go.Proofs.Ytcjgjbaadmohbaa
