/- Walks of the document's Units and Decode. -/
import Derived.Test.YtcjgjbaadmohbaaCpD
import Derived.Test.YtcjgjbaadmohbaaCpE
import Derived.Test.YtcjgjbaadmohbaaCpF
import Derived.Test.YtcjgjbaadmohbaaCpB
namespace Go.Proofs.Ytcjgjbaadmohbaa
open Go.RowKit
set_option linter.unusedVariables false
set_option linter.unusedSimpArgs false
set_option maxRecDepth 100000
theorem CpG_is1_21 : Is1 Try.prog 21 := ⟨⟨_, Try.underlying21, rfl⟩, by kernel_rfl⟩
theorem CpG_is1_3 : Is1 Try.prog 3 := ⟨⟨_, Try.underlying3, rfl⟩, by kernel_rfl⟩
theorem CpG_is1_4 : Is1 Try.prog 4 := ⟨⟨_, Try.underlying4, rfl⟩, by kernel_rfl⟩
theorem CpG_is1_5 : Is1 Try.prog 5 := ⟨⟨_, Try.underlying5, rfl⟩, by kernel_rfl⟩
theorem CpG_fld_23_0 : FieldAt Try.prog 23 0 0 := ⟨_, _, Try.underlying23, rfl, rfl, by kernel_rfl⟩
theorem CpG_fld_23_1 : FieldAt Try.prog 23 1 1 := ⟨_, _, Try.underlying23, rfl, rfl, by kernel_rfl⟩
theorem CpG_fld_23_2 : FieldAt Try.prog 23 2 2 := ⟨_, _, Try.underlying23, rfl, rfl, by kernel_rfl⟩
theorem CpG_fld_78_0 : FieldAt Try.prog 78 0 0 := ⟨_, _, Try.underlying78, rfl, rfl, by kernel_rfl⟩
theorem CpG_fld_78_1 : FieldAt Try.prog 78 1 1 := ⟨_, _, Try.underlying78, rfl, rfl, by kernel_rfl⟩
theorem CpG_fld_78_2 : FieldAt Try.prog 78 2 2 := ⟨_, _, Try.underlying78, rfl, rfl, by kernel_rfl⟩
theorem CpG_isS_23 : IsS Try.prog 23 3 := ⟨⟨_, Try.underlying23⟩, by kernel_rfl⟩
theorem CpG_isS_78 : IsS Try.prog 78 3 := ⟨⟨_, Try.underlying78⟩, by kernel_rfl⟩
theorem rutf16_any {w : World} {so : Option Addr} {cap : Nat} {l : List UInt8} (hb : Rb w so l) (hlen : l.length ≤ 1000000) : Calls Try.prog 71 #[.slice so l.length cap] w fun e w' => ∃ v, e = .returned v ∧ Mg w w' [.row 78 3 v (unitsW l).length (unitV (unitsW l))] := by
  rcases Bool.eq_false_or_eq_true (decide (2 ≤ ((l.length : Nat) : Int))) with k | k
  · rcases Bool.eq_false_or_eq_true (((((l.getD (0) 0).toNat : Nat) : Int) == 254)) with ka | ka
    · have kc : (((((l.getD (0) 0).toNat : Nat) : Int) == 255)) = false := beq_false_of_ne (by have := eq_of_beq ka; omega)
      rcases Bool.eq_false_or_eq_true (((((l.getD (1) 0).toNat : Nat) : Int) == 255)) with kb | kb
      · exact rutf16_p1 hb hlen k ka kb kc
      · exact rutf16_p2 hb hlen k ka kb kc
    · rcases Bool.eq_false_or_eq_true (((((l.getD (0) 0).toNat : Nat) : Int) == 255)) with kc | kc
      · rcases Bool.eq_false_or_eq_true (((((l.getD (1) 0).toNat : Nat) : Int) == 254)) with kd | kd
        · exact rutf16_p3 hb hlen k ka kc kd
        · exact rutf16_p4 hb hlen k ka kc kd
      · exact rutf16_p5 hb hlen k ka kc
  · exact rutf16_p0 hb hlen k
theorem runits_any {w : World} {c : Int} {so : Option Addr} {cap : Nat} {l : List UInt8} (hb : Rb w so l) (hlen : l.length ≤ 1000000) (hc : 1 ≤ c ∧ c ≤ 3) : Calls Try.prog 40 #[.int .i64 c, .slice so l.length cap] w fun e w' => ∃ v, e = .returned v ∧ Mg w w' [.row 78 3 v (unitsC c l).length (unitV (unitsC c l))] := by
 have hM : Mg w w ([]) := Mg.start w
 refine walk_of (l := [(0, .int .i64 c), (1, .slice so l.length cap)]) Try.func40 rfl Try.ntmps40 rfl rfl ?_
 intro Q hret hnorm hP a hA
 refine wp_seq_k (fun K1 hK1 => ?_)
 refine wp_region_lit ?_
 refine seq_do hA rfl rfl rfl (does_assign rfl) ?_
 intro a hA
 refine seq_end ?_
 refine hK1 _ _ ?_
 refine wp_seq_k (fun K2 hK2 => ?_)
 refine wp_seq_k (fun K3 hK3 => ?_)
 refine wp_region_lit ?_
 refine seq_do hA rfl rfl rfl (does_move rfl) ?_
 intro a hA
 rcases Bool.eq_false_or_eq_true ((c == 1)) with hb4 | hb4
 · have hb4' := eq_of_beq hb4
   refine seq_do (v := .bool true) hA rfl rfl rfl (does_bin rfl rfl (fun w => (bin_eql w).trans (by rw [hb4]))) ?_
   intro a hA
   refine seq_end ?_
   refine hK3 _ _ ?_
   refine wp_cond_true (hA.ev rfl) ?_
   refine wp_seq_k (fun K5 hK5 => ?_)
   refine wp_region_lit ?_
   refine seq_do hA rfl rfl rfl (does_move rfl) ?_
   intro a hA
   refine seq_call hA rfl rfl rfl (enters_func rfl rfl (fun w => by kernel_rfl)) (rutf8_any (hb.below hM.bel) (by omega)) ?_
   rintro _ w10 ⟨v6, rfl, hM7⟩
   obtain ⟨so8, ca9, rfl⟩ := owns_sliceE (hM7.has 0 rfl)
   replace hM : Mg w w10 (.row 78 3 (.slice so8 ((unitsU l).length) ca9) ((unitsU l).length) ((unitV (unitsU l))) :: []) := (hM.both hM7 (noBld_quiet quietL_nil) (noBld_cons (by simp) (noBld_quiet quietL_nil)))
   refine ⟨_, rfl, ?_⟩
   intro a hA
   refine seq_do hA rfl rfl rfl (does_assign rfl) ?_
   intro a hA
   refine seq_end ?_
   refine hK5 _ _ ?_
   refine wp_ret ?_
   refine hret _ _ ?_
   refine ends (v := .slice so8 ((unitsU l).length) ca9) hA rfl (.cons (res_tmp rfl) .nil) rfl ?_
   have hcc : unitsC c l = unitsU l := by unfold unitsC; repeat (first | rfl | rw [if_pos (by omega)] | rw [if_neg (by omega)])
   rw [hcc]
   exact ⟨_, rfl, hM⟩
 · have hb4' := ne_of_beq_false hb4
   refine seq_do (v := .bool false) hA rfl rfl rfl (does_bin rfl rfl (fun w => (bin_eql w).trans (by rw [hb4]))) ?_
   intro a hA
   refine seq_end ?_
   refine hK3 _ _ ?_
   refine wp_cond_false (hA.ev rfl) ?_
   refine wp_skip ?_
   refine hK2 _ _ ?_
   refine wp_seq_k (fun K11 hK11 => ?_)
   refine wp_seq_k (fun K12 hK12 => ?_)
   refine wp_region_lit ?_
   refine seq_do hA rfl rfl rfl (does_move rfl) ?_
   intro a hA
   rcases Bool.eq_false_or_eq_true ((c == 3)) with hb13 | hb13
   · have hb13' := eq_of_beq hb13
     refine seq_do (v := .bool true) hA rfl rfl rfl (does_bin rfl rfl (fun w => (bin_eql w).trans (by rw [hb13]))) ?_
     intro a hA
     refine seq_end ?_
     refine hK12 _ _ ?_
     refine wp_cond_true (hA.ev rfl) ?_
     refine wp_seq_k (fun K14 hK14 => ?_)
     refine wp_region_lit ?_
     refine seq_do hA rfl rfl rfl (does_move rfl) ?_
     intro a hA
     refine seq_call hA rfl rfl rfl (enters_func rfl rfl (fun w => by kernel_rfl)) (rutf16_any (hb.below hM.bel) (by omega)) ?_
     rintro _ w19 ⟨v15, rfl, hM16⟩
     obtain ⟨so17, ca18, rfl⟩ := owns_sliceE (hM16.has 0 rfl)
     replace hM : Mg w w19 (.row 78 3 (.slice so17 ((unitsW l).length) ca18) ((unitsW l).length) ((unitV (unitsW l))) :: []) := (hM.both hM16 (noBld_quiet quietL_nil) (noBld_cons (by simp) (noBld_quiet quietL_nil)))
     refine ⟨_, rfl, ?_⟩
     intro a hA
     refine seq_do hA rfl rfl rfl (does_assign rfl) ?_
     intro a hA
     refine seq_end ?_
     refine hK14 _ _ ?_
     refine wp_ret ?_
     refine hret _ _ ?_
     refine ends (v := .slice so17 ((unitsW l).length) ca18) hA rfl (.cons (res_tmp rfl) .nil) rfl ?_
     have hcc : unitsC c l = unitsW l := by unfold unitsC; repeat (first | rfl | rw [if_pos (by omega)] | rw [if_neg (by omega)])
     rw [hcc]
     exact ⟨_, rfl, hM⟩
   · have hb13' := ne_of_beq_false hb13
     refine seq_do (v := .bool false) hA rfl rfl rfl (does_bin rfl rfl (fun w => (bin_eql w).trans (by rw [hb13]))) ?_
     intro a hA
     refine seq_end ?_
     refine hK12 _ _ ?_
     refine wp_cond_false (hA.ev rfl) ?_
     refine wp_skip ?_
     refine hK11 _ _ ?_
     refine wp_seq_k (fun K20 hK20 => ?_)
     refine wp_region_lit ?_
     refine s_litE (e := 78) (sz := 3) (m := 0) (vs := []) hA hM rfl rfl rfl (does_buildSlice rfl (by kernel_rfl)) rfl rfl (.inl (by decide)) ?_
     intro g21 w22 hM a hA
     refine seq_do hA rfl rfl rfl (does_assign rfl) ?_
     intro a hA
     refine seq_end ?_
     refine hK20 _ _ ?_
     refine wp_seq_k (fun K23 hK23 => ?_)
     refine wp_seq_k (fun K24 hK24 => ?_)
     refine wp_region_lit ?_
     refine seq_do hA rfl rfl rfl (does_assign rfl) ?_
     intro a hA
     refine seq_end ?_
     refine hK24 _ _ ?_
     refine wp_block ?_
     refine wp_loop_n (fun m_ a w1 => ∃ (i : Nat) (acc : List (Int × Int)) (vo : Value), m_ = l.length - i ∧ (acc ++ unitsB i (l.drop i) = unitsB 0 l ∧ i ≤ l.length ∧ acc.length ≤ i) ∧ Sl a 33 [(0, .int .i64 c), (1, .slice so l.length cap), (4, .slice none 0 0), (5, vo), (6, .int .i64 (((i : Nat) : Int))), (7, .int .i64 c), (8, .bool false), (11, .int .i64 c), (12, .bool false), (15, .slice (some ⟨g21, 0, none⟩) 0 0)] ∧ Mg w w1 (.row 78 3 (vo) acc.length ((unitV acc)) :: [])) _ ⟨0, [], .slice (some ⟨g21, 0, none⟩) 0 0, rfl, ⟨by rw [List.drop_zero]; rfl, Nat.zero_le _, Nat.le_refl _⟩, hA.keep _ ⟨rfl, rfl, rfl, rfl, rfl, rfl, rfl, rfl, rfl, rfl, trivial⟩, hM⟩ ?_
     clear hM hA
     rintro m_ a w25 ⟨i, acc, vo, rfl, hinv27, hA, hM⟩ K26 hK26
     obtain ⟨hrun, hi9, hacc⟩ := hinv27
     refine wp_seq_k (fun K28 hK28 => ?_)
     refine wp_seq_k (fun K29 hK29 => ?_)
     refine wp_region_lit ?_
     refine seq_do hA rfl rfl rfl (does_move rfl) ?_
     intro a hA
     refine seq_do hA rfl rfl rfl (does_move rfl) ?_
     intro a hA
     refine seq_do (v := .int .i64 (((l.length : Nat) : Int))) hA rfl rfl rfl (does_len Try.underlying24 rfl) ?_
     intro a hA
     rcases Bool.eq_false_or_eq_true (decide (((i : Nat) : Int) < ((l.length : Nat) : Int))) with hb30 | hb30
     · have hb30' := of_decide_eq_true hb30
       refine seq_do (v := .bool true) hA rfl rfl rfl (does_bin rfl rfl (fun w => (bin_lss w).trans (by rw [hb30]))) ?_
       intro a hA
       refine seq_end ?_
       refine hK29 _ _ ?_
       refine wp_cond_true (hA.ev rfl) ?_
       refine wp_skip ?_
       refine hK28 _ _ ?_
       refine wp_seq_k (fun K31 hK31 => ?_)
       refine wp_block ?_
       refine wp_region_lit ?_
       refine seq_do hA rfl rfl rfl (does_move rfl) ?_
       intro a hA
       refine seq_do hA rfl rfl rfl (does_move rfl) ?_
       intro a hA
       refine seq_do hA rfl rfl rfl (does_move rfl) ?_
       intro a hA
       obtain ⟨bx32, ox33, hxa34, hxb35, hxc36⟩ := rb_open (i := i) hb (by omega)
       refine seq_do (v := .pointer (some ⟨bx32, ox33 + (i), none⟩)) hA rfl rfl rfl (does_indexRow Try.underlying24 (by kernel_rfl) rfl rfl rfl hxa34 (show i < l.length by omega)) ?_
       intro a hA
       refine seq_do (v := .int .u8 ((((l.getD i 0).toNat : Nat) : Int))) hA rfl rfl rfl (m_loadR hM hxb35 (hxc36 i (by omega)) CpG_is1_5 rfl) ?_
       intro a hA
       have hu9 := (l.getD i 0).toNat_lt
       refine seq_do (v := .int .i32 ((((l.getD i 0).toNat : Nat) : Int))) hA rfl rfl rfl (does_convert rfl (ar_conv Try.underlying5 Try.underlying21 (in_i32 (by omega) (by omega)))) ?_
       intro a hA
       refine seq_do hA rfl rfl rfl (does_move rfl) ?_
       intro a hA
       refine seq_do (v := .agg #[.int .i32 ((((l.getD i 0).toNat : Nat) : Int)), .bool false, .int .i64 (((i : Nat) : Int))]) hA rfl rfl rfl (does_build rfl (fun w => by kernel_rfl)) ?_
       intro a hA
       refine s_litE (e := 78) (sz := 3) (m := 1) (vs := [.int .i32 ((((l.getD i 0).toNat : Nat) : Int)), .bool false, .int .i64 (((i : Nat) : Int))]) hA hM rfl rfl rfl (does_buildSlice rfl (by kernel_rfl)) rfl rfl (.inl (by decide)) ?_
       intro g37 w38 hM a hA
       refine s_appendE (e := 78) (sz := 3) (k := 1) (q := acc.length) (m := 1) (xs := (unitV acc)) (news := [.int .i32 ((((l.getD i 0).toNat : Nat) : Int)), .bool false, .int .i64 (((i : Nat) : Int))]) (L' := fun v39 => (.row 78 3 (.slice (some ⟨g37, 0, none⟩) 1 1) 1 ([.int .i32 ((((l.getD i 0).toNat : Nat) : Int)), .bool false, .int .i64 (((i : Nat) : Int))]) :: .row 78 3 (v39) (acc.length + 1) ((unitV acc) ++ [.int .i32 ((((l.getD i 0).toNat : Nat) : Int)), .bool false, .int .i64 (((i : Nat) : Int))]) :: [])) hA rfl rfl rfl (m_appendE (z := .agg #[.int .i32 0, .bool false, .int .i64 0]) (sz := 3) (by_ := 16) Try.underlying75 (by kernel_rfl) rfl rfl rfl hM 1 rfl rfl 0 rfl rfl rfl rfl (by omega)) (fun _ => rfl) ?_
       intro v39 w40 hM a hA
       refine seq_do hA rfl rfl rfl (does_assign rfl) ?_
       intro a hA
       refine seq_end ?_
       refine hK31 _ _ ?_
       refine wp_region_lit ?_
       refine seq_do hA rfl rfl rfl (does_move rfl) ?_
       intro a hA
       refine seq_do (v := .int .i64 (((i + 1 : Nat) : Int))) hA rfl rfl rfl (does_bin rfl rfl (ar_add ((in_i64 (by omega) (by omega)).trans (by omega)))) ?_
       intro a hA
       refine seq_do hA rfl rfl rfl (does_assign rfl) ?_
       intro a hA
       refine seq_end ?_
       replace hM : Mg w w40 (.row 78 3 (v39) ((acc ++ [(((i : Nat) : Int), (((l.getD i 0).toNat : Nat) : Int))]).length) ((unitV (acc ++ [(((i : Nat) : Int), (((l.getD i 0).toNat : Nat) : Int))]))) :: []) := by
         have h9 := hM.sub (.cons _ (.cons_cons _ (.refl _)))
         rw [unitV_snoc_good (by omega), List.length_append]
         exact h9
       refine hK26 _ _ _ (by omega) ⟨i + 1, acc ++ [(((i : Nat) : Int), (((l.getD i 0).toNat : Nat) : Int))], v39, rfl, ⟨by rw [← hrun, unitsB_step (l := l) (p := i) (by omega), List.append_assoc]; rfl, by omega, by rw [List.length_append]; simp only [List.length_cons, List.length_nil]; omega⟩, hA.keep _ ⟨rfl, rfl, rfl, rfl, rfl, rfl, rfl, rfl, rfl, rfl, trivial⟩, hM⟩
     · have hb30' := of_decide_eq_false hb30
       refine seq_do (v := .bool false) hA rfl rfl rfl (does_bin rfl rfl (fun w => (bin_lss w).trans (by rw [hb30]))) ?_
       intro a hA
       refine seq_end ?_
       refine hK29 _ _ ?_
       refine wp_cond_false (hA.ev rfl) ?_
       refine wp_exit ?_
       refine hK23 _ _ ?_
       refine wp_seq_k (fun K41 hK41 => ?_)
       refine wp_region_lit ?_
       refine seq_do hA rfl rfl rfl (does_move rfl) ?_
       intro a hA
       refine seq_do hA rfl rfl rfl (does_assign rfl) ?_
       intro a hA
       refine seq_end ?_
       refine hK41 _ _ ?_
       refine wp_ret ?_
       refine hret _ _ ?_
       refine ends (v := vo) hA rfl (.cons (res_tmp rfl) .nil) rfl ?_
       rw [unitsB_over (by omega), List.append_nil] at hrun
       subst hrun
       have hcc : unitsC c l = unitsB 0 l := by unfold unitsC; rw [if_neg (by omega), if_pos (by omega)]
       rw [hcc]
       exact ⟨_, rfl, hM⟩
theorem runits_as {w : World} {c : Int} {so : Option Addr} {cap : Nat} {l : List UInt8} {us : List (Int × Int)} (hb : Rb w so l) (hlen : l.length ≤ 1000000) (hc : 1 ≤ c ∧ c ≤ 3) (hus : unitsC c l = us) : Calls Try.prog 40 #[.int .i64 c, .slice so l.length cap] w fun e w' => ∃ v, e = .returned v ∧ Mg w w' [.row 78 3 v us.length (unitV us)] := hus ▸ runits_any hb hlen hc
set_option maxHeartbeats 2000000 in
theorem rdecode_any {w : World} {c k m : Int} {so : Option Addr} {cap : Nat} {l : List UInt8} (hb : Rb w so l) {us : List (Int × Int)} (hus : unitsC c l = us) {R : List UInt8 × Int × Int} (hR : runV (cstep putB m 65533) ([], 0, 0) us = R) : Calls Try.prog 8 #[.agg #[.int .i64 c, .int .i64 k, .int .i64 m], .slice so l.length cap] w fun e w' => e = .returned (.tuple #[.string ⟨(decS c k m l).1.toArray⟩, .int .i64 (decS c k m l).2.1, .int .i64 (decS c k m l).2.2]) ∧ Below w.heap.size w w' := by
 have hoku := units_ok c l
 rw [hus] at hoku
 have hlu := units_lenC c l
 rw [hus] at hlu
 have hM : Mg w w ([]) := Mg.start w
 refine walk_of (l := [(0, .agg #[.int .i64 c, .int .i64 k, .int .i64 m]), (1, .slice so l.length cap)]) Try.func8 rfl Try.ntmps8 rfl rfl ?_
 intro Q hret hnorm hP a hA
 refine wp_seq_k (fun K1 hK1 => ?_)
 refine wp_region_lit ?_
 refine s_new (vs := [.int .i64 c, .int .i64 k, .int .i64 m]) (t := 23) hA hM rfl rfl rfl (fun g => .pointer (some ⟨g, 0, none⟩)) (does_box rfl rfl) (by decide) ?_
 intro g2 w3 hM a hA
 refine seq_do hA rfl rfl rfl (does_assign rfl) ?_
 intro a hA
 refine seq_do hA rfl rfl rfl (does_assign rfl) ?_
 intro a hA
 refine seq_do hA rfl rfl rfl (does_assign rfl) ?_
 intro a hA
 refine seq_end ?_
 refine hK1 _ _ ?_
 refine wp_seq_k (fun K4 hK4 => ?_)
 refine wp_seq_k (fun K5 hK5 => ?_)
 refine wp_region_lit ?_
 refine seq_do hA rfl rfl rfl (m_loadS hM CpG_isS_23 rfl 0 rfl (cs := [.int .i64 c, .int .i64 k, .int .i64 m]) rfl rfl) ?_
 intro a hA
 refine seq_call hA rfl rfl rfl (enters_func rfl rfl (fun w => by kernel_rfl)) (rcheck_any) ?_
 rintro _ w7 ⟨rfl, hb6⟩
 replace hM := hM.call hb6
 refine ⟨_, rfl, ?_⟩
 intro a hA
 rcases Bool.eq_false_or_eq_true ((checkS c k m != 0)) with hb8 | hb8
 · have hb8' := bne_iff_ne.1 hb8
   refine seq_do (v := .bool true) hA rfl rfl rfl (does_bin rfl rfl (fun w => (bin_neq w).trans (by rw [hb8]))) ?_
   intro a hA
   refine seq_end ?_
   refine hK5 _ _ ?_
   refine wp_cond_true (hA.ev rfl) ?_
   refine wp_seq_k (fun K9 hK9 => ?_)
   refine wp_region_lit ?_
   refine seq_do hA rfl rfl rfl (does_assign rfl) ?_
   intro a hA
   refine seq_do hA rfl rfl rfl (does_assign rfl) ?_
   intro a hA
   refine seq_do hA rfl rfl rfl (does_assign rfl) ?_
   intro a hA
   refine seq_end ?_
   refine hK9 _ _ ?_
   refine wp_ret ?_
   refine hret _ _ ?_
   refine ends (v := .tuple #[.string (⟨#[]⟩), .int .i64 0, .int .i64 1]) hA rfl (.cons (res_tmp rfl) (.cons (res_tmp rfl) (.cons (res_tmp rfl) .nil))) rfl ?_
   rw [decS_arg (by omega)]
   exact ⟨rfl, hM.bel⟩
 · have hb8' := bne_eq_false_iff_eq.1 hb8
   refine seq_do (v := .bool false) hA rfl rfl rfl (does_bin rfl rfl (fun w => (bin_neq w).trans (by rw [hb8]))) ?_
   intro a hA
   refine seq_end ?_
   refine hK5 _ _ ?_
   refine wp_cond_false (hA.ev rfl) ?_
   refine wp_skip ?_
   refine hK4 _ _ ?_
   refine wp_seq_k (fun K10 hK10 => ?_)
   refine wp_seq_k (fun K11 hK11 => ?_)
   refine wp_region_lit ?_
   refine seq_do hA rfl rfl rfl (does_move rfl) ?_
   intro a hA
   refine seq_do (v := .int .i64 (((l.length : Nat) : Int))) hA rfl rfl rfl (does_len Try.underlying24 rfl) ?_
   intro a hA
   rcases Bool.eq_false_or_eq_true (decide (65536 < ((l.length : Nat) : Int))) with hb12 | hb12
   · have hb12' := of_decide_eq_true hb12
     refine seq_do (v := .bool true) hA rfl rfl rfl (does_bin rfl rfl (fun w => (bin_gtr w).trans (by rw [hb12]))) ?_
     intro a hA
     refine seq_end ?_
     refine hK11 _ _ ?_
     refine wp_cond_true (hA.ev rfl) ?_
     refine wp_seq_k (fun K13 hK13 => ?_)
     refine wp_region_lit ?_
     refine seq_do hA rfl rfl rfl (does_assign rfl) ?_
     intro a hA
     refine seq_do hA rfl rfl rfl (does_assign rfl) ?_
     intro a hA
     refine seq_do hA rfl rfl rfl (does_assign rfl) ?_
     intro a hA
     refine seq_end ?_
     refine hK13 _ _ ?_
     refine wp_ret ?_
     refine hret _ _ ?_
     refine ends (v := .tuple #[.string (⟨#[]⟩), .int .i64 0, .int .i64 4]) hA rfl (.cons (res_tmp rfl) (.cons (res_tmp rfl) (.cons (res_tmp rfl) .nil))) rfl ?_
     rw [decS_large (by omega) (by omega)]
     exact ⟨rfl, hM.bel⟩
   · have hb12' := of_decide_eq_false hb12
     refine seq_do (v := .bool false) hA rfl rfl rfl (does_bin rfl rfl (fun w => (bin_gtr w).trans (by rw [hb12]))) ?_
     intro a hA
     refine seq_end ?_
     refine hK11 _ _ ?_
     refine wp_cond_false (hA.ev rfl) ?_
     refine wp_skip ?_
     refine hK10 _ _ ?_
     refine wp_seq_k (fun K14 hK14 => ?_)
     have hchk9 := check_in (c := c) (k := k) (m := m) (by omega)
     have hc9 := hchk9.1
     refine wp_region_lit ?_
     refine s_litE (e := 21) (sz := 1) (m := 0) (vs := []) hA hM rfl rfl rfl (does_buildSlice rfl (by kernel_rfl)) rfl rfl (.inl (by decide)) ?_
     intro g15 w16 hM a hA
     refine seq_do hA rfl rfl rfl (does_assign rfl) ?_
     intro a hA
     refine seq_end ?_
     refine hK14 _ _ ?_
     refine wp_seq_k (fun K17 hK17 => ?_)
     refine wp_region_lit ?_
     refine seq_do (v := .pointer (some ⟨g2, 0, none⟩)) hA rfl rfl rfl (does_field CpG_fld_23_0 rfl rfl) ?_
     intro a hA
     refine seq_do hA rfl rfl rfl (m_load1 hM CpG_is1_3 rfl 1 rfl rfl) ?_
     intro a hA
     refine seq_do hA rfl rfl rfl (does_move rfl) ?_
     intro a hA
     refine seq_call hA rfl rfl rfl (enters_func rfl rfl (fun w => by kernel_rfl)) (runits_as (hb.below hM.bel) (by omega) hc9 hus) ?_
     rintro _ w22 ⟨v18, rfl, hM19⟩
     obtain ⟨so20, ca21, rfl⟩ := owns_sliceE (hM19.has 0 rfl)
     replace hM : Mg w w22 (.row 78 3 (.slice so20 us.length ca21) us.length ((unitV us)) :: .row 21 1 (.slice (some ⟨g15, 0, none⟩) 0 0) 0 ([]) :: .obj g2 (.cells #[.int .i64 c, .int .i64 k, .int .i64 m] 23) :: []) := (hM.both hM19 (noBld_cons (by simp) (noBld_cons (by simp) (noBld_quiet quietL_nil))) (noBld_cons (by simp) (noBld_quiet quietL_nil)))
     refine ⟨_, rfl, ?_⟩
     intro a hA
     refine seq_do hA rfl rfl rfl (does_assign rfl) ?_
     intro a hA
     refine seq_end ?_
     refine hK17 _ _ ?_
     refine wp_seq_k (fun K23 hK23 => ?_)
     refine wp_seq_k (fun K24 hK24 => ?_)
     refine wp_region_lit ?_
     refine seq_do hA rfl rfl rfl (does_assign rfl) ?_
     intro a hA
     refine seq_end ?_
     refine hK24 _ _ ?_
     refine wp_block ?_
     refine wp_loop_n (fun m_ a w1 => ∃ (i : Nat) (rs : List Int) (vo : Value), m_ = us.length - i ∧ (runV (cstep putB m 65533) (encs rs, 0, 0) (us.drop i) = R ∧ (∀ r ∈ rs, OkC r) ∧ i ≤ us.length ∧ rs.length ≤ i) ∧ Sl a 59 [(0, .agg #[.int .i64 c, .int .i64 k, .int .i64 m]), (1, .slice so l.length cap), (2, .pointer (some ⟨g2, 0, none⟩)), (7, vo), (8, .slice so20 us.length ca21), (9, .int .i64 (((i : Nat) : Int))), (11, .agg #[.int .i64 c, .int .i64 k, .int .i64 m]), (12, .int .i64 (checkS c k m)), (13, .bool false), (14, .slice so l.length cap), (15, .int .i64 (((l.length : Nat) : Int))), (16, .bool false), (17, .slice (some ⟨g15, 0, none⟩) 0 0), (18, .pointer (some ⟨g2, 0, none⟩)), (19, .int .i64 c), (20, .slice so l.length cap), (21, .slice so20 us.length ca21)] ∧ Mg w w1 (.row 78 3 (.slice so20 us.length ca21) us.length ((unitV us)) :: .row 21 1 (vo) rs.length ((runeV rs)) :: .obj g2 (.cells #[.int .i64 c, .int .i64 k, .int .i64 m] 23) :: [])) _ ⟨0, [], .slice (some ⟨g15, 0, none⟩) 0 0, rfl, ⟨by rw [List.drop_zero]; exact hR, (fun r hr => by cases hr), Nat.zero_le _, Nat.le_refl _⟩, hA.keep _ ⟨rfl, rfl, rfl, rfl, rfl, rfl, rfl, rfl, rfl, rfl, rfl, rfl, rfl, rfl, rfl, rfl, rfl, trivial⟩, hM⟩ ?_
     clear hM hA
     rintro m_ a w25 ⟨i, rs, vo, rfl, hinv27, hA, hM⟩ K26 hK26
     obtain ⟨hrun, hok, hi9, hacc⟩ := hinv27
     refine wp_seq_k (fun K28 hK28 => ?_)
     refine wp_seq_k (fun K29 hK29 => ?_)
     refine wp_region_lit ?_
     refine seq_do hA rfl rfl rfl (does_move rfl) ?_
     intro a hA
     refine seq_do hA rfl rfl rfl (does_move rfl) ?_
     intro a hA
     refine seq_do (v := .int .i64 (((us.length : Nat) : Int))) hA rfl rfl rfl (does_len Try.underlying75 rfl) ?_
     intro a hA
     rcases Bool.eq_false_or_eq_true (decide (((i : Nat) : Int) < ((us.length : Nat) : Int))) with hb30 | hb30
     · have hb30' := of_decide_eq_true hb30
       refine seq_do (v := .bool true) hA rfl rfl rfl (does_bin rfl rfl (fun w => (bin_lss w).trans (by rw [hb30]))) ?_
       intro a hA
       refine seq_end ?_
       refine hK29 _ _ ?_
       refine wp_cond_true (hA.ev rfl) ?_
       refine wp_skip ?_
       refine hK28 _ _ ?_
       refine wp_seq_k (fun K31 hK31 => ?_)
       refine wp_block ?_
       refine wp_seq_k (fun K32 hK32 => ?_)
       refine wp_region_lit ?_
       refine seq_do hA rfl rfl rfl (does_move rfl) ?_
       intro a hA
       refine seq_do hA rfl rfl rfl (does_move rfl) ?_
       intro a hA
       obtain ⟨gu, hgu⟩ := row_addr hM 0 rfl (by omega)
       obtain ⟨ua, ur, hu⟩ := unit_get (us := us) (i := i) (by omega)
       refine seq_do (v := .pointer (some ⟨gu, i * 3, none⟩)) hA rfl rfl rfl (does_indexX Try.underlying75 (by kernel_rfl) rfl rfl rfl hgu (show i < us.length by omega)) ?_
       intro a hA
       by_cases hf : ur = -1
       · refine seq_do (v := .agg #[.int .i32 0, .bool true, .int .i64 ua]) hA rfl rfl rfl (m_loadXS hM 0 rfl hgu CpG_isS_78 (unit_cells_bad hu hf) rfl rfl) ?_
         intro a hA
         refine s_new (vs := [.int .i32 0, .bool false, .int .i64 0]) (t := 78) hA hM rfl rfl rfl (fun g => .pointer (some ⟨g, 0, none⟩)) (does_alloc (z := .agg #[.int .i32 0, .bool false, .int .i64 0]) (by kernel_rfl) rfl) (by decide) ?_
         intro g33 w34 hM a hA
         refine s_store (us := [.int .i32 0, .bool true, .int .i64 ua]) (L' := (.obj g33 (.cells #[.int .i32 0, .bool true, .int .i64 ua] 78) :: .row 78 3 (.slice so20 us.length ca21) us.length ((unitV us)) :: .row 21 1 (vo) rs.length ((runeV rs)) :: .obj g2 (.cells #[.int .i64 c, .int .i64 k, .int .i64 m] 23) :: [])) hA hM rfl rfl (m_store rfl rfl rfl (by kernel_rfl) hM 0 rfl rfl rfl) 0 rfl rfl rfl ?_
         intro w35 hM
         refine seq_end ?_
         refine hK32 _ _ ?_
         refine wp_block ?_
         refine wp_seq_k (fun K36 hK36 => ?_)
         refine wp_region_lit ?_
         refine seq_do (v := .pointer (some ⟨g33, 1, none⟩)) hA rfl rfl rfl (does_field CpG_fld_78_1 rfl rfl) ?_
         intro a hA
         refine seq_do hA rfl rfl rfl (m_load1 hM CpG_is1_4 rfl 0 rfl rfl) ?_
         intro a hA
         refine seq_do (v := .bool false) hA rfl rfl rfl (does_un rfl un_not) ?_
         intro a hA
         refine seq_do hA rfl rfl rfl (does_assign rfl) ?_
         intro a hA
         refine seq_end ?_
         refine hK36 _ _ ?_
         refine wp_cond_false (hA.ev rfl) ?_
         refine wp_seq_k (fun K37 hK37 => ?_)
         refine wp_region_lit ?_
         refine seq_do (v := .pointer (some ⟨g2, 2, none⟩)) hA rfl rfl rfl (does_field CpG_fld_23_2 rfl rfl) ?_
         intro a hA
         refine seq_do hA rfl rfl rfl (m_load1 hM CpG_is1_3 rfl 3 rfl rfl) ?_
         intro a hA
         rcases Bool.eq_false_or_eq_true ((m == 0)) with hb38 | hb38
         · have hb38' := eq_of_beq hb38
           refine seq_do (v := .bool true) hA rfl rfl rfl (does_bin rfl rfl (fun w => (bin_eql w).trans (by rw [hb38]))) ?_
           intro a hA
           refine seq_do hA rfl rfl rfl (does_assign rfl) ?_
           intro a hA
           refine seq_end ?_
           refine hK37 _ _ ?_
           refine wp_cond_true (hA.ev rfl) ?_
           refine wp_seq_k (fun K39 hK39 => ?_)
           refine wp_draw (S := fun w1 => Mg w w1 (.obj g33 (.cells #[.int .i32 0, .bool true, .int .i64 ua] 78) :: [])) (by kernel_rfl) ?_
           replace hM := hM.drew
           refine any_tk (v := .pointer (some ⟨g33, 2, none⟩)) hA 0 rfl rfl rfl rfl hP (hM.sub (.cons_cons _ (.cons _ (.cons _ (.cons _ (List.nil_sublist _)))))) (fun w1 hM => does_field CpG_fld_78_2 rfl rfl) ?_
           intro a hA
           refine any_tk hA 1 rfl rfl rfl rfl hP (hM.sub (.cons_cons _ (.cons _ (.cons _ (.cons _ (List.nil_sublist _)))))) (fun w1 hM => m_load1 hM CpG_is1_3 rfl 0 rfl rfl) ?_
           intro a hA
           refine any_tk hA 2 rfl rfl rfl rfl hP (hM.sub (.cons_cons _ (.cons _ (.cons _ (.cons _ (List.nil_sublist _)))))) (fun w1 hM => does_assign rfl) ?_
           intro a hA
           refine any_tk hA 3 rfl rfl rfl rfl hP (hM.sub (.cons_cons _ (.cons _ (.cons _ (.cons _ (List.nil_sublist _)))))) (fun w1 hM => does_assign rfl) ?_
           intro a hA
           refine any_tk hA 4 rfl rfl rfl rfl hP (hM.sub (.cons_cons _ (.cons _ (.cons _ (.cons _ (List.nil_sublist _)))))) (fun w1 hM => does_assign rfl) ?_
           intro a hA
           refine any_end (by kernel_rfl) ?_
           refine hK39 _ _ ?_
           refine wp_ret ?_
           refine hret _ _ ?_
           refine ends (v := .tuple #[.string (⟨#[]⟩), .int .i64 ua, .int .i64 6]) hA rfl (.cons (res_tmp rfl) (.cons (res_tmp rfl) (.cons (res_tmp rfl) .nil))) rfl ?_
           rw [drop_unit hu, dec_bad0 (by omega) hf] at hrun
           rw [decS_bad (by omega) (by omega) (show decR c m l = _ from (by unfold decR; rw [hus]; exact hR.trans hrun.symm))]
           exact ⟨rfl, hM.bel⟩
         · have hb38' := ne_of_beq_false hb38
           refine seq_do (v := .bool false) hA rfl rfl rfl (does_bin rfl rfl (fun w => (bin_eql w).trans (by rw [hb38]))) ?_
           intro a hA
           refine seq_do hA rfl rfl rfl (does_assign rfl) ?_
           intro a hA
           refine seq_end ?_
           refine hK37 _ _ ?_
           refine wp_cond_false (hA.ev rfl) ?_
           refine wp_seq_k (fun K40 hK40 => ?_)
           refine wp_region_lit ?_
           refine seq_do (v := .pointer (some ⟨g2, 2, none⟩)) hA rfl rfl rfl (does_field CpG_fld_23_2 rfl rfl) ?_
           intro a hA
           refine seq_do hA rfl rfl rfl (m_load1 hM CpG_is1_3 rfl 3 rfl rfl) ?_
           intro a hA
           rcases Bool.eq_false_or_eq_true ((m == 1)) with hb41 | hb41
           · have hb41' := eq_of_beq hb41
             refine seq_do (v := .bool true) hA rfl rfl rfl (does_bin rfl rfl (fun w => (bin_eql w).trans (by rw [hb41]))) ?_
             intro a hA
             refine seq_do hA rfl rfl rfl (does_assign rfl) ?_
             intro a hA
             refine seq_end ?_
             refine hK40 _ _ ?_
             refine wp_cond_true (hA.ev rfl) ?_
             refine wp_region_lit ?_
             refine seq_do hA rfl rfl rfl (does_move rfl) ?_
             intro a hA
             refine s_litE (e := 21) (sz := 1) (m := 1) (vs := [.int .i32 65533]) hA hM rfl rfl rfl (does_buildSlice rfl (by kernel_rfl)) rfl rfl (.inl (by decide)) ?_
             intro g42 w43 hM a hA
             refine s_appendE (e := 21) (sz := 1) (k := 3) (q := rs.length) (m := 1) (xs := (runeV rs)) (news := [.int .i32 65533]) (L' := fun v44 => (.row 21 1 (.slice (some ⟨g42, 0, none⟩) 1 1) 1 ([.int .i32 65533]) :: .obj g33 (.cells #[.int .i32 0, .bool true, .int .i64 ua] 78) :: .row 78 3 (.slice so20 us.length ca21) us.length ((unitV us)) :: .row 21 1 (v44) (rs.length + 1) ((runeV rs) ++ [.int .i32 65533]) :: .obj g2 (.cells #[.int .i64 c, .int .i64 k, .int .i64 m] 23) :: [])) hA rfl rfl rfl (m_appendE (z := .int .i32 0) (sz := 1) (by_ := 4) Try.underlying74 (by kernel_rfl) rfl rfl rfl hM 3 rfl rfl 0 rfl rfl rfl rfl (by omega)) (fun _ => rfl) ?_
             intro v44 w45 hM a hA
             refine seq_do hA rfl rfl rfl (does_assign rfl) ?_
             intro a hA
             refine seq_end ?_
             refine hK31 _ _ ?_
             refine wp_region_lit ?_
             refine seq_do hA rfl rfl rfl (does_move rfl) ?_
             intro a hA
             refine seq_do (v := .int .i64 (((i + 1 : Nat) : Int))) hA rfl rfl rfl (does_bin rfl rfl (ar_add ((in_i64 (by omega) (by omega)).trans (by omega)))) ?_
             intro a hA
             refine seq_do hA rfl rfl rfl (does_assign rfl) ?_
             intro a hA
             refine seq_end ?_
             rw [drop_unit hu] at hrun
             replace hM : Mg w w45 (.row 78 3 (.slice so20 us.length ca21) us.length ((unitV us)) :: .row 21 1 (v44) ((rs ++ [65533]).length) ((runeV (rs ++ [65533]))) :: .obj g2 (.cells #[.int .i64 c, .int .i64 k, .int .i64 m] 23) :: []) := by
               have h9 := hM.sub (.cons _ (.cons _ (.cons_cons _ (.cons_cons _ (.cons_cons _ (.refl _))))))
               unfold runeV at h9 ⊢
               rw [List.map_append, List.length_append]
               exact h9
             refine hK26 _ _ _ (by omega) ⟨i + 1, rs ++ [65533], v44, rfl, ⟨by rw [← hrun]; exact (dec_bad1 (by omega) hf).symm, fun r hr => by rcases List.mem_append.1 hr with h | h; exact hok r h; rw [List.mem_singleton] at h; subst h; exact (by unfold OkC; omega), by omega, by rw [List.length_append]; simp only [List.length_cons, List.length_nil]; omega⟩, hA.keep _ ⟨rfl, rfl, rfl, rfl, rfl, rfl, rfl, rfl, rfl, rfl, rfl, rfl, rfl, rfl, rfl, rfl, rfl, trivial⟩, hM⟩
           · have hb41' := ne_of_beq_false hb41
             refine seq_do (v := .bool false) hA rfl rfl rfl (does_bin rfl rfl (fun w => (bin_eql w).trans (by rw [hb41]))) ?_
             intro a hA
             refine seq_do hA rfl rfl rfl (does_assign rfl) ?_
             intro a hA
             refine seq_end ?_
             refine hK40 _ _ ?_
             refine wp_cond_false (hA.ev rfl) ?_
             refine wp_skip ?_
             refine hK31 _ _ ?_
             refine wp_region_lit ?_
             refine seq_do hA rfl rfl rfl (does_move rfl) ?_
             intro a hA
             refine seq_do (v := .int .i64 (((i + 1 : Nat) : Int))) hA rfl rfl rfl (does_bin rfl rfl (ar_add ((in_i64 (by omega) (by omega)).trans (by omega)))) ?_
             intro a hA
             refine seq_do hA rfl rfl rfl (does_assign rfl) ?_
             intro a hA
             refine seq_end ?_
             rw [drop_unit hu] at hrun
             replace hM : Mg w w35 (.row 78 3 (.slice so20 us.length ca21) us.length ((unitV us)) :: .row 21 1 (vo) rs.length ((runeV rs)) :: .obj g2 (.cells #[.int .i64 c, .int .i64 k, .int .i64 m] 23) :: []) := by
               have h9 := hM.sub (.cons _ (.cons_cons _ (.cons_cons _ (.cons_cons _ (.refl _)))))
               exact h9
             refine hK26 _ _ _ (by omega) ⟨i + 1, rs, vo, rfl, ⟨by rw [← hrun]; exact (dec_bad2 (by omega) (by omega) hf).symm, hok, by omega, by omega⟩, hA.keep _ ⟨rfl, rfl, rfl, rfl, rfl, rfl, rfl, rfl, rfl, rfl, rfl, rfl, rfl, rfl, rfl, rfl, rfl, trivial⟩, hM⟩
       · refine seq_do (v := .agg #[.int .i32 ur, .bool false, .int .i64 ua]) hA rfl rfl rfl (m_loadXS hM 0 rfl hgu CpG_isS_78 (unit_cells_good hu hf) rfl rfl) ?_
         intro a hA
         refine s_new (vs := [.int .i32 0, .bool false, .int .i64 0]) (t := 78) hA hM rfl rfl rfl (fun g => .pointer (some ⟨g, 0, none⟩)) (does_alloc (z := .agg #[.int .i32 0, .bool false, .int .i64 0]) (by kernel_rfl) rfl) (by decide) ?_
         intro g46 w47 hM a hA
         refine s_store (us := [.int .i32 ur, .bool false, .int .i64 ua]) (L' := (.obj g46 (.cells #[.int .i32 ur, .bool false, .int .i64 ua] 78) :: .row 78 3 (.slice so20 us.length ca21) us.length ((unitV us)) :: .row 21 1 (vo) rs.length ((runeV rs)) :: .obj g2 (.cells #[.int .i64 c, .int .i64 k, .int .i64 m] 23) :: [])) hA hM rfl rfl (m_store rfl rfl rfl (by kernel_rfl) hM 0 rfl rfl rfl) 0 rfl rfl rfl ?_
         intro w48 hM
         refine seq_end ?_
         refine hK32 _ _ ?_
         refine wp_block ?_
         refine wp_seq_k (fun K49 hK49 => ?_)
         refine wp_region_lit ?_
         refine seq_do (v := .pointer (some ⟨g46, 1, none⟩)) hA rfl rfl rfl (does_field CpG_fld_78_1 rfl rfl) ?_
         intro a hA
         refine seq_do hA rfl rfl rfl (m_load1 hM CpG_is1_4 rfl 0 rfl rfl) ?_
         intro a hA
         refine seq_do (v := .bool true) hA rfl rfl rfl (does_un rfl un_not) ?_
         intro a hA
         refine seq_do hA rfl rfl rfl (does_assign rfl) ?_
         intro a hA
         refine seq_end ?_
         refine hK49 _ _ ?_
         refine wp_cond_true (hA.ev rfl) ?_
         refine wp_region_lit ?_
         refine seq_do hA rfl rfl rfl (does_move rfl) ?_
         intro a hA
         refine seq_do (v := .pointer (some ⟨g46, 0, none⟩)) hA rfl rfl rfl (does_field CpG_fld_78_0 rfl rfl) ?_
         intro a hA
         refine seq_do hA rfl rfl rfl (m_load1 hM CpG_is1_21 rfl 0 rfl rfl) ?_
         intro a hA
         refine s_litE (e := 21) (sz := 1) (m := 1) (vs := [.int .i32 ur]) hA hM rfl rfl rfl (does_buildSlice rfl (by kernel_rfl)) rfl rfl (.inl (by decide)) ?_
         intro g50 w51 hM a hA
         refine s_appendE (e := 21) (sz := 1) (k := 3) (q := rs.length) (m := 1) (xs := (runeV rs)) (news := [.int .i32 ur]) (L' := fun v52 => (.row 21 1 (.slice (some ⟨g50, 0, none⟩) 1 1) 1 ([.int .i32 ur]) :: .obj g46 (.cells #[.int .i32 ur, .bool false, .int .i64 ua] 78) :: .row 78 3 (.slice so20 us.length ca21) us.length ((unitV us)) :: .row 21 1 (v52) (rs.length + 1) ((runeV rs) ++ [.int .i32 ur]) :: .obj g2 (.cells #[.int .i64 c, .int .i64 k, .int .i64 m] 23) :: [])) hA rfl rfl rfl (m_appendE (z := .int .i32 0) (sz := 1) (by_ := 4) Try.underlying74 (by kernel_rfl) rfl rfl rfl hM 3 rfl rfl 0 rfl rfl rfl rfl (by omega)) (fun _ => rfl) ?_
         intro v52 w53 hM a hA
         refine seq_do hA rfl rfl rfl (does_assign rfl) ?_
         intro a hA
         refine seq_end ?_
         refine hK31 _ _ ?_
         refine wp_region_lit ?_
         refine seq_do hA rfl rfl rfl (does_move rfl) ?_
         intro a hA
         refine seq_do (v := .int .i64 (((i + 1 : Nat) : Int))) hA rfl rfl rfl (does_bin rfl rfl (ar_add ((in_i64 (by omega) (by omega)).trans (by omega)))) ?_
         intro a hA
         refine seq_do hA rfl rfl rfl (does_assign rfl) ?_
         intro a hA
         refine seq_end ?_
         rw [drop_unit hu] at hrun
         replace hM : Mg w w53 (.row 78 3 (.slice so20 us.length ca21) us.length ((unitV us)) :: .row 21 1 (v52) ((rs ++ [ur]).length) ((runeV (rs ++ [ur]))) :: .obj g2 (.cells #[.int .i64 c, .int .i64 k, .int .i64 m] 23) :: []) := by
           have h9 := hM.sub (.cons _ (.cons _ (.cons_cons _ (.cons_cons _ (.cons_cons _ (.refl _))))))
           unfold runeV at h9 ⊢
           rw [List.map_append, List.length_append]
           exact h9
         refine hK26 _ _ _ (by omega) ⟨i + 1, rs ++ [ur], v52, rfl, ⟨by rw [← hrun]; exact (dec_put hf).symm, fun r hr => by rcases List.mem_append.1 hr with h | h; exact hok r h; rw [List.mem_singleton] at h; subst h; exact (ok_unit hoku hu hf), by omega, by rw [List.length_append]; simp only [List.length_cons, List.length_nil]; omega⟩, hA.keep _ ⟨rfl, rfl, rfl, rfl, rfl, rfl, rfl, rfl, rfl, rfl, rfl, rfl, rfl, rfl, rfl, rfl, rfl, trivial⟩, hM⟩
     · have hb30' := of_decide_eq_false hb30
       refine seq_do (v := .bool false) hA rfl rfl rfl (does_bin rfl rfl (fun w => (bin_lss w).trans (by rw [hb30]))) ?_
       intro a hA
       refine seq_end ?_
       refine hK29 _ _ ?_
       refine wp_cond_false (hA.ev rfl) ?_
       refine wp_exit ?_
       refine hK23 _ _ ?_
       refine wp_seq_k (fun K54 hK54 => ?_)
       refine wp_region_lit ?_
       refine seq_do (v := .pointer (some ⟨g2, 1, none⟩)) hA rfl rfl rfl (does_field CpG_fld_23_1 rfl rfl) ?_
       intro a hA
       refine seq_do hA rfl rfl rfl (m_load1 hM CpG_is1_3 rfl 2 rfl rfl) ?_
       intro a hA
       refine seq_do hA rfl rfl rfl (does_move rfl) ?_
       intro a hA
       obtain ⟨so55, ca56, rfl⟩ := owns_sliceE (hM.has 1 rfl)
       refine seq_call hA rfl rfl rfl (enters_func rfl rfl (fun w => by kernel_rfl)) (rends_any (rr_row hM 1 rfl).1 (by omega)) ?_
       rintro _ w61 ⟨v57, rfl, hM58⟩
       obtain ⟨so59, ca60, rfl⟩ := owns_sliceE (hM58.has 0 rfl)
       replace hM : Mg w w61 (.row 21 1 (.slice so59 ((plC k 0 rs).length) ca60) ((plC k 0 rs).length) ((runeV (plC k 0 rs))) :: .row 78 3 (.slice so20 us.length ca21) us.length ((unitV us)) :: .row 21 1 (.slice so55 rs.length ca56) rs.length ((runeV rs)) :: .obj g2 (.cells #[.int .i64 c, .int .i64 k, .int .i64 m] 23) :: []) := (hM.both hM58 (noBld_cons (by simp) (noBld_cons (by simp) (noBld_cons (by simp) (noBld_quiet quietL_nil)))) (noBld_cons (by simp) (noBld_quiet quietL_nil)))
       refine ⟨_, rfl, ?_⟩
       intro a hA
       refine seq_do (v := .string ((⟨(encs (plC k 0 rs)).toArray⟩ : ByteArray))) hA rfl rfl rfl (does_convW rfl (conv_runes Try.underlying74 Try.underlying21 Try.underlying9 (rr_row hM 0 rfl).1 (plC_ok rs 0 hok) _)) ?_
       intro a hA
       refine seq_do hA rfl rfl rfl (does_assign rfl) ?_
       intro a hA
       refine seq_do hA rfl rfl rfl (does_assign rfl) ?_
       intro a hA
       refine seq_do hA rfl rfl rfl (does_assign rfl) ?_
       intro a hA
       refine seq_end ?_
       refine hK54 _ _ ?_
       refine wp_ret ?_
       refine hret _ _ ?_
       refine ends (v := .tuple #[.string ((⟨(encs (plC k 0 rs)).toArray⟩ : ByteArray)), .int .i64 0, .int .i64 0]) hA rfl (.cons (res_tmp rfl) (.cons (res_tmp rfl) (.cons (res_tmp rfl) .nil))) rfl ?_
       rw [List.drop_eq_nil_of_le (by omega)] at hrun
       replace hrun : ((encs rs, 0, 0) : List UInt8 × Int × Int) = R := hrun
       rw [decS_good (by omega) (by omega) hok (show decR c m l = _ from (by unfold decR; rw [hus]; exact hR.trans hrun.symm))]
       exact ⟨rfl, hM.bel⟩
end Go.Proofs.Ytcjgjbaadmohbaa
