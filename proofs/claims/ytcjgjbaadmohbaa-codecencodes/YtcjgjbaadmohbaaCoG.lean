/- The walk of Decode. -/
import Derived.Test.YtcjgjbaadmohbaaCoF
namespace Go.Proofs.Ytcjgjbaadmohbaa
open Go.RowKit
set_option linter.unusedVariables false
set_option linter.unusedSimpArgs false
set_option maxRecDepth 100000
theorem CoG_is1_24 : Is1 Try.prog 24 := ⟨⟨_, Try.underlying24, rfl⟩, by kernel_rfl⟩
theorem CoG_is1_3 : Is1 Try.prog 3 := ⟨⟨_, Try.underlying3, rfl⟩, by kernel_rfl⟩
theorem CoG_fld_23_1 : FieldAt Try.prog 23 1 1 := ⟨_, _, Try.underlying23, rfl, rfl, by kernel_rfl⟩
theorem CoG_fld_23_2 : FieldAt Try.prog 23 2 2 := ⟨_, _, Try.underlying23, rfl, rfl, by kernel_rfl⟩
theorem CoG_isS_23 : IsS Try.prog 23 3 := ⟨⟨_, Try.underlying23⟩, by kernel_rfl⟩
/-- What the units come to, by a mode. -/
def decR (c m : Int) (l : List UInt8) : List UInt8 × Int × Int := runV (cstep putB m 65533) ([], 0, 0) (unitsC c l)
/-- What Decode answers. -/
def decS (c k m : Int) (l : List UInt8) : List UInt8 × Int × Int :=
  if refS c k m l.length ≠ 0 then ([], 0, refS c k m l.length)
  else if (decR c m l).2.2 ≠ 0 then ([], (decR c m l).2.1, (decR c m l).2.2)
  else if k = 0 then ((decR c m l).1, 0, 0) else (plainE (decR c m l).1, 0, 0)
theorem refS_le {c k m : Int} {n : Nat} (h : refS c k m n = 0) : n ≤ 65536 ∧ checkS c k m = 0 := by
  unfold refS at h
  by_cases h1 : checkS c k m = 0
  · rw [if_pos h1] at h
    by_cases h2 : 65536 < n
    · rw [if_pos h2] at h; cases h
    · exact ⟨by omega, h1⟩
  · rw [if_neg h1] at h; cases h
theorem decode_any {w : World} {c k m : Int} {so : Option Addr} {cap : Nat} {l : List UInt8} (hb0 : Rb w so l) {R : List UInt8 × Int × Int} (hR : decR c m l = R) : Calls Try.prog 7 #[.agg #[.int .i64 c, .int .i64 k, .int .i64 m], .slice so l.length cap] w fun e w' => e = .returned (.tuple #[.string ⟨(decS c k m l).1.toArray⟩, .int .i64 (decS c k m l).2.1, .int .i64 (decS c k m l).2.2]) ∧ Below w.heap.size w w' := by
 have h0 := @refS_le c k m l.length
 have hM : Mg w w ([]) := Mg.start w
 refine walk_of (l := [(0, .agg #[.int .i64 c, .int .i64 k, .int .i64 m]), (1, .slice so l.length cap)]) Try.func7 rfl Try.ntmps7 rfl rfl ?_
 intro Q hret hnorm hP a hA
 refine wp_seq_k (fun K1 hK1 => ?_)
 refine wp_region_lit ?_
 refine s_new (vs := [.int .i64 c, .int .i64 k, .int .i64 m]) (t := 23) hA hM rfl rfl rfl (fun g => .pointer (some ⟨g, 0, none⟩)) (does_box rfl rfl) (by decide) ?_
 intro g2 w3 hM a hA
 refine s_new (vs := [.slice so l.length cap]) (t := 24) hA hM rfl rfl rfl (fun g => .pointer (some ⟨g, 0, none⟩)) (does_box rfl rfl) (by decide) ?_
 intro g4 w5 hM a hA
 refine seq_do hA rfl rfl rfl (does_assign rfl) ?_
 intro a hA
 refine seq_do hA rfl rfl rfl (does_assign rfl) ?_
 intro a hA
 refine seq_do hA rfl rfl rfl (does_assign rfl) ?_
 intro a hA
 refine seq_end ?_
 refine hK1 _ _ ?_
 refine wp_seq_k (fun K6 hK6 => ?_)
 refine wp_seq_k (fun K7 hK7 => ?_)
 refine wp_region_lit ?_
 refine seq_do hA rfl rfl rfl (m_loadS hM CoG_isS_23 rfl 1 rfl (cs := [.int .i64 c, .int .i64 k, .int .i64 m]) rfl rfl) ?_
 intro a hA
 refine seq_do hA rfl rfl rfl (m_load1 hM CoG_is1_24 rfl 0 rfl rfl) ?_
 intro a hA
 refine seq_do (v := .int .i64 (((l.length : Nat) : Int))) hA rfl rfl rfl (does_len Try.underlying24 rfl) ?_
 intro a hA
 refine seq_call hA rfl rfl rfl (enters_func rfl rfl (fun w => by kernel_rfl)) (refusal_any) ?_
 rintro _ w9 ⟨rfl, hb8⟩
 replace hM := hM.call hb8
 refine ⟨_, rfl, ?_⟩
 intro a hA
 refine seq_do hA rfl rfl rfl (does_assign rfl) ?_
 intro a hA
 refine seq_end ?_
 refine hK7 _ _ ?_
 refine wp_seq_k (fun K10 hK10 => ?_)
 refine wp_region_lit ?_
 refine seq_do hA rfl rfl rfl (does_move rfl) ?_
 intro a hA
 rcases Bool.eq_false_or_eq_true ((refS c k m l.length != 0)) with hb11 | hb11
 · have hb11' := bne_iff_ne.1 hb11
   refine seq_do (v := .bool true) hA rfl rfl rfl (does_bin rfl rfl (fun w => (bin_neq w).trans (by rw [hb11]))) ?_
   intro a hA
   refine seq_end ?_
   refine hK10 _ _ ?_
   refine wp_cond_true (hA.ev rfl) ?_
   refine wp_seq_k (fun K12 hK12 => ?_)
   refine wp_region_lit ?_
   refine seq_do hA rfl rfl rfl (does_move rfl) ?_
   intro a hA
   refine seq_do hA rfl rfl rfl (does_assign rfl) ?_
   intro a hA
   refine seq_do hA rfl rfl rfl (does_assign rfl) ?_
   intro a hA
   refine seq_do hA rfl rfl rfl (does_assign rfl) ?_
   intro a hA
   refine seq_end ?_
   refine hK12 _ _ ?_
   refine wp_ret ?_
   refine hret _ _ ?_
   refine ends (v := .tuple #[.string (⟨#[]⟩), .int .i64 0, .int .i64 (refS c k m l.length)]) hA rfl (.cons (res_tmp rfl) (.cons (res_tmp rfl) (.cons (res_tmp rfl) .nil))) rfl ?_
   unfold decS
   rw [if_pos (bne_iff_ne.1 hb11)]
   exact ⟨rfl, hM.bel⟩
 · have hb11' := bne_eq_false_iff_eq.1 hb11
   refine seq_do (v := .bool false) hA rfl rfl rfl (does_bin rfl rfl (fun w => (bin_neq w).trans (by rw [hb11]))) ?_
   intro a hA
   refine seq_end ?_
   refine hK10 _ _ ?_
   refine wp_cond_false (hA.ev rfl) ?_
   refine wp_skip ?_
   refine hK6 _ _ ?_
   refine wp_seq_k (fun K13 hK13 => ?_)
   refine wp_region_lit ?_
   refine s_new (vs := [.pointer none, .slice none 0 0]) (t := 60) hA hM rfl rfl rfl (fun g => .pointer (some ⟨g, 0, none⟩)) (does_alloc (z := .agg #[.pointer none, .slice none 0 0]) (by kernel_rfl) rfl) (by decide) ?_
   intro g14 w15 hM a hA
   replace hM : Mg w w15 (.bld g14 (Lib.byteCells []) :: .obj g4 (.cells #[.slice so l.length cap] 24) :: .obj g2 (.cells #[.int .i64 c, .int .i64 k, .int .i64 m] 23) :: []) := toBld hM (quietL_cons (quiet_cells (by decide)) (quietL_cons (quiet_cells (by decide)) quietL_nil))
   refine seq_end ?_
   refine hK13 _ _ ?_
   refine wp_seq_k (fun K16 hK16 => ?_)
   refine wp_region_lit ?_
   refine seq_do (v := .func (.func 33) #[] [.pointer (some ⟨g2, 0, none⟩), .pointer (some ⟨g4, 0, none⟩)].toArray) hA rfl rfl rfl (does_makeFunc rfl) ?_
   intro a hA
   refine seq_do hA rfl rfl rfl (does_assign rfl) ?_
   intro a hA
   refine seq_end ?_
   refine hK16 _ _ ?_
   refine wp_seq_k (fun K17 hK17 => ?_)
   refine wp_region_lit ?_
   refine seq_do (v := .func (.func 35) #[] [.pointer (some ⟨g14, 0, none⟩)].toArray) hA rfl rfl rfl (does_makeFunc rfl) ?_
   intro a hA
   refine seq_do hA rfl rfl rfl (does_assign rfl) ?_
   intro a hA
   refine seq_end ?_
   refine hK17 _ _ ?_
   refine wp_seq_k (fun K18 hK18 => ?_)
   refine wp_region_lit ?_
   refine seq_do hA rfl rfl rfl (does_move rfl) ?_
   intro a hA
   refine seq_do hA rfl rfl rfl (does_move rfl) ?_
   intro a hA
   refine seq_do (v := .pointer (some ⟨g2, 2, none⟩)) hA rfl rfl rfl (does_field CoG_fld_23_2 rfl rfl) ?_
   intro a hA
   refine seq_do hA rfl rfl rfl (m_load1 hM CoG_is1_3 rfl 2 rfl rfl) ?_
   intro a hA
   refine seq_call hA rfl rfl rfl (enters_func rfl rfl (fun w => by kernel_rfl)) (carry_any (decode_tells (c := c) (k := k) (m := m) (gb := g4) (gc := g2) (cap := cap) hb0 (by omega)) (decode_puts (gt := g14)) (by omega) (X := []) (T0 := [.bld g14 (Lib.byteCells [])]) quietL_nil ⟨rfl, by simp; omega⟩ (hM.perm (perm_end [.obj g4 (.cells #[.slice so l.length cap] 24), .obj g2 (.cells #[.int .i64 c, .int .i64 k, .int .i64 m] 23)] (.bld g14 (Lib.byteCells []))).symm) hR) ?_
   rintro _ w22 ⟨rfl, T19, ⟨rfl, hl20⟩, hM21⟩
   replace hM : Mg w w22 (.bld g14 (Lib.byteCells R.1) :: .obj g4 (.cells #[.slice so l.length cap] 24) :: .obj g2 (.cells #[.int .i64 c, .int .i64 k, .int .i64 m] 23) :: []) := (hM21.perm (perm_end [.obj g4 (.cells #[.slice so l.length cap] 24), .obj g2 (.cells #[.int .i64 c, .int .i64 k, .int .i64 m] 23)] _))
   refine ⟨_, rfl, ?_⟩
   intro a hA
   refine seq_do hA rfl rfl rfl (does_move rfl) ?_
   intro a hA
   refine seq_do (v := .int .i64 R.2.1) hA rfl rfl rfl (does_extract (vs := [.int .i64 R.2.1, .int .i64 R.2.2]) rfl rfl) ?_
   intro a hA
   refine seq_do (v := .int .i64 R.2.2) hA rfl rfl rfl (does_extract (vs := [.int .i64 R.2.1, .int .i64 R.2.2]) rfl rfl) ?_
   intro a hA
   refine seq_do hA rfl rfl rfl (does_assign rfl) ?_
   intro a hA
   refine seq_do hA rfl rfl rfl (does_assign rfl) ?_
   intro a hA
   refine seq_end ?_
   refine hK18 _ _ ?_
   refine wp_seq_k (fun K23 hK23 => ?_)
   refine wp_seq_k (fun K24 hK24 => ?_)
   refine wp_region_lit ?_
   refine seq_do hA rfl rfl rfl (does_move rfl) ?_
   intro a hA
   rcases Bool.eq_false_or_eq_true ((R.2.2 != 0)) with hb25 | hb25
   · have hb25' := bne_iff_ne.1 hb25
     refine seq_do (v := .bool true) hA rfl rfl rfl (does_bin rfl rfl (fun w => (bin_neq w).trans (by rw [hb25]))) ?_
     intro a hA
     refine seq_end ?_
     refine hK24 _ _ ?_
     refine wp_cond_true (hA.ev rfl) ?_
     refine wp_seq_k (fun K26 hK26 => ?_)
     refine wp_region_lit ?_
     refine seq_do hA rfl rfl rfl (does_move rfl) ?_
     intro a hA
     refine seq_do hA rfl rfl rfl (does_move rfl) ?_
     intro a hA
     refine seq_do hA rfl rfl rfl (does_assign rfl) ?_
     intro a hA
     refine seq_do hA rfl rfl rfl (does_assign rfl) ?_
     intro a hA
     refine seq_do hA rfl rfl rfl (does_assign rfl) ?_
     intro a hA
     refine seq_end ?_
     refine hK26 _ _ ?_
     refine wp_ret ?_
     refine hret _ _ ?_
     refine ends (v := .tuple #[.string (⟨#[]⟩), .int .i64 R.2.1, .int .i64 R.2.2]) hA rfl (.cons (res_tmp rfl) (.cons (res_tmp rfl) (.cons (res_tmp rfl) .nil))) rfl ?_
     unfold decS
     rw [if_neg (by rw [bne_eq_false_iff_eq.1 hb11]; decide), show decR c m l = R from hR, if_pos (bne_iff_ne.1 hb25)]
     exact ⟨rfl, hM.bel⟩
   · have hb25' := bne_eq_false_iff_eq.1 hb25
     refine seq_do (v := .bool false) hA rfl rfl rfl (does_bin rfl rfl (fun w => (bin_neq w).trans (by rw [hb25]))) ?_
     intro a hA
     refine seq_end ?_
     refine hK24 _ _ ?_
     refine wp_cond_false (hA.ev rfl) ?_
     refine wp_skip ?_
     refine hK23 _ _ ?_
     refine wp_seq_k (fun K27 hK27 => ?_)
     refine wp_seq_k (fun K28 hK28 => ?_)
     refine wp_region_lit ?_
     refine seq_do (v := .pointer (some ⟨g2, 1, none⟩)) hA rfl rfl rfl (does_field CoG_fld_23_1 rfl rfl) ?_
     intro a hA
     refine seq_do hA rfl rfl rfl (m_load1 hM CoG_is1_3 rfl 2 rfl rfl) ?_
     intro a hA
     rcases Bool.eq_false_or_eq_true ((k == 0)) with hb29 | hb29
     · have hb29' := eq_of_beq hb29
       refine seq_do (v := .bool true) hA rfl rfl rfl (does_bin rfl rfl (fun w => (bin_eql w).trans (by rw [hb29]))) ?_
       intro a hA
       refine seq_end ?_
       refine hK28 _ _ ?_
       refine wp_cond_true (hA.ev rfl) ?_
       refine wp_seq_k (fun K30 hK30 => ?_)
       refine wp_region_lit ?_
       refine seq_call hA rfl rfl rfl (enters_func rfl rfl (fun w => by kernel_rfl)) (Try.Builder_String_any_k w.heap.size g14 R.1 _ (hM.has 0 rfl) hM.bel.size) ?_
       rintro _ w34 ⟨rfl, hB31, hb32, ho33⟩
       replace hM : Mg w w34 (.bld g14 (Lib.byteCells R.1) :: .obj g4 (.cells #[.slice so l.length cap] 24) :: .obj g2 (.cells #[.int .i64 c, .int .i64 k, .int .i64 m] 23) :: []) := (hM.wrote 0 rfl hb32 ho33 hB31)
       refine ⟨_, rfl, ?_⟩
       intro a hA
       refine seq_do hA rfl rfl rfl (does_assign rfl) ?_
       intro a hA
       refine seq_do hA rfl rfl rfl (does_assign rfl) ?_
       intro a hA
       refine seq_do hA rfl rfl rfl (does_assign rfl) ?_
       intro a hA
       refine seq_end ?_
       refine hK30 _ _ ?_
       refine wp_ret ?_
       refine hret _ _ ?_
       refine ends (v := .tuple #[.string ((⟨R.1.toArray⟩ : ByteArray)), .int .i64 0, .int .i64 0]) hA rfl (.cons (res_tmp rfl) (.cons (res_tmp rfl) (.cons (res_tmp rfl) .nil))) rfl ?_
       unfold decS
       rw [if_neg (by rw [bne_eq_false_iff_eq.1 hb11]; decide), show decR c m l = R from hR, if_neg (by rw [bne_eq_false_iff_eq.1 hb25]; decide), if_pos (eq_of_beq hb29)]
       exact ⟨rfl, hM.bel⟩
     · have hb29' := ne_of_beq_false hb29
       refine seq_do (v := .bool false) hA rfl rfl rfl (does_bin rfl rfl (fun w => (bin_eql w).trans (by rw [hb29]))) ?_
       intro a hA
       refine seq_end ?_
       refine hK28 _ _ ?_
       refine wp_cond_false (hA.ev rfl) ?_
       refine wp_skip ?_
       refine hK27 _ _ ?_
       refine wp_seq_k (fun K35 hK35 => ?_)
       refine wp_region_lit ?_
       refine seq_call hA rfl rfl rfl (enters_func rfl rfl (fun w => by kernel_rfl)) (Try.Builder_String_any_k w.heap.size g14 R.1 _ (hM.has 0 rfl) hM.bel.size) ?_
       rintro _ w39 ⟨rfl, hB36, hb37, ho38⟩
       replace hM : Mg w w39 (.bld g14 (Lib.byteCells R.1) :: .obj g4 (.cells #[.slice so l.length cap] 24) :: .obj g2 (.cells #[.int .i64 c, .int .i64 k, .int .i64 m] 23) :: []) := (hM.wrote 0 rfl hb37 ho38 hB36)
       refine ⟨_, rfl, ?_⟩
       intro a hA
       refine seq_call hA rfl rfl rfl (enters_func rfl rfl (fun w => by kernel_rfl)) ((show Calls Try.prog 39 #[.string (⟨R.1.toArray⟩ : ByteArray)] _ (fun e w' => e = .returned (.string ⟨(plainE R.1).toArray⟩) ∧ _) from (by have h8 := plain_any (w := w39) (s := ⟨R.1.toArray⟩) (by show R.1.toArray.size ≤ _; rw [List.size_toArray]; omega); rw [show (⟨R.1.toArray⟩ : ByteArray).data.toList = R.1 from by simp] at h8; exact h8))) ?_
       rintro _ w41 ⟨rfl, hb40⟩
       replace hM := hM.call hb40
       refine ⟨_, rfl, ?_⟩
       intro a hA
       refine seq_do hA rfl rfl rfl (does_assign rfl) ?_
       intro a hA
       refine seq_do hA rfl rfl rfl (does_assign rfl) ?_
       intro a hA
       refine seq_do hA rfl rfl rfl (does_assign rfl) ?_
       intro a hA
       refine seq_end ?_
       refine hK35 _ _ ?_
       refine wp_ret ?_
       refine hret _ _ ?_
       refine ends (v := .tuple #[.string ((⟨(plainE R.1).toArray⟩ : ByteArray)), .int .i64 0, .int .i64 0]) hA rfl (.cons (res_tmp rfl) (.cons (res_tmp rfl) (.cons (res_tmp rfl) .nil))) rfl ?_
       unfold decS
       rw [if_neg (by rw [bne_eq_false_iff_eq.1 hb11]; decide), show decR c m l = R from hR, if_neg (by rw [bne_eq_false_iff_eq.1 hb25]; decide), if_neg (ne_of_beq_false hb29)]
       exact ⟨rfl, hM.bel⟩
end Go.Proofs.Ytcjgjbaadmohbaa
