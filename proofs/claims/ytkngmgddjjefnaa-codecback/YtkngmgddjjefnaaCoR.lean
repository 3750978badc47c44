/- The walk of CodecModes. -/
import Derived.Test.YtkngmgddjjefnaaCoO
import Derived.Test.YtkngmgddjjefnaaCoQ
namespace Go.Proofs.Ytkngmgddjjefnaa
open Go.RowKit
set_option linter.unusedVariables false
set_option linter.unusedSimpArgs false
set_option maxRecDepth 100000
theorem CoR_fld_23_2 : FieldAt Try.prog 23 2 2 := ⟨_, _, Try.underlying23, rfl, rfl, by kernel_rfl⟩
theorem CoR_isS_23 : IsS Try.prog 23 3 := ⟨⟨_, Try.underlying23⟩, by kernel_rfl⟩
theorem decode_zero {w : World} {c k m : Int} {so : Option Addr} {cap : Nat} {l : List UInt8} (hb : Rb w so l) (h : (decS c k m l).2 = (0, 0)) : Calls Try.prog 9 #[.agg #[.int .i64 c, .int .i64 k, .int .i64 m], .slice so l.length cap] w fun e w' => e = .returned (.tuple #[.string ⟨(decS c k m l).1.toArray⟩, .int .i64 0, .int .i64 0]) ∧ Below w.heap.size w w' := by
  have h1 := decode_any (c := c) (k := k) (m := m) (cap := cap) hb rfl
  rw [h] at h1
  exact h1
theorem encode_zero {w : World} {c k m : Int} {s : ByteArray} (h : (encS c k m s).2 = (0, 0)) : Calls Try.prog 14 #[.agg #[.int .i64 c, .int .i64 k, .int .i64 m], .string s] w fun e w' => ∃ v, e = .returned (.tuple #[v, .int .i64 0, .int .i64 0]) ∧ (encS c k m s).1.length ≤ 100000000 ∧ Mg w w' [.row BY 1 v (encS c k m s).1.length (Lib.byteCells (encS c k m s).1)] := by
  have h1 := encode_any (w := w) (c := c) (k := k) (m := m) (s := s) rfl
  rw [h] at h1
  exact h1
theorem bin_eqlT {P : Program} {t : TypeId} {x y : Operand} {a b : ByteArray} (hu : P.underlying t = some .string) (h : a = b) : ∀ w, (do eqGuard .eql t x y (.string a) (.string b); binOp .eql t (.string a) (.string b) : Sem Value).run P w = .ok (.bool true) w := fun w => by
  subst h
  simp [go_sem, hu, run_underlying hu]
theorem same_eq {w0 w : World} {L : List Ck} (hM : Mg w0 w L) (i j : Nat) {v v' : Value} {n n' : Nat} {xs ys : List UInt8} (hi : L[i]? = some (.row BY 1 v n (Lib.byteCells xs))) (hj : L[j]? = some (.row BY 1 v' n' (Lib.byteCells ys))) (hl : xs.length ≤ 1000000000) (h : xs = ys) : Calls Try.prog 16 #[v, v'] w fun e w' => e = .returned (.bool true) ∧ Below w.heap.size w w' := by
  have h1 := same_own hM i j hi hj hl
  rw [decide_eq_true h] at h1
  exact h1
theorem modes_any {w : World} {c k m : Int} {so : Option Addr} {cap : Nat} {l : List UInt8} {s : ByteArray} (hb : Rb w so l) (hcap : l.length ≤ cap) : Calls Try.prog 6 #[.agg #[.int .i64 c, .int .i64 k, .int .i64 m], .slice so l.length cap, .string s] w fun e w' => e = .returned (.bool true) ∧ Below w.heap.size w w' := by
 have hM : Mg w w ([]) := Mg.start w
 refine walk_of (l := [(0, .agg #[.int .i64 c, .int .i64 k, .int .i64 m]), (1, .slice so l.length cap), (2, .string s)]) Try.func6 rfl Try.ntmps6 rfl rfl ?_
 intro Q hret hnorm hP a hA
 refine wp_seq_k (fun K1 hK1 => ?_)
 refine wp_region_lit ?_
 refine s_new (vs := [.int .i64 c, .int .i64 k, .int .i64 m]) (t := 23) hA hM rfl rfl rfl (fun g => .pointer (some ⟨g, 0, none⟩)) (does_box rfl rfl) (by decide) ?_
 intro g2 w3 hM a hA
 refine seq_do hA rfl rfl rfl (does_assign rfl) ?_
 intro a hA
 refine seq_end ?_
 refine hK1 _ _ ?_
 refine wp_seq_k (fun K4 hK4 => ?_)
 refine wp_region_lit ?_
 refine seq_do (v := .pointer (some ⟨g2, 2, none⟩)) hA rfl rfl rfl (does_field CoR_fld_23_2 rfl rfl) ?_
 intro a hA
 refine s_store (us := [.int .i64 c, .int .i64 k, .int .i64 0]) (L' := (.obj g2 (.cells #[.int .i64 c, .int .i64 k, .int .i64 0] 23) :: [])) hA hM rfl rfl (m_store rfl rfl rfl (by kernel_rfl) hM 0 rfl rfl rfl) 0 rfl rfl rfl ?_
 intro w5 hM
 refine seq_end ?_
 refine hK4 _ _ ?_
 refine wp_seq_k (fun K6 hK6 => ?_)
 refine wp_seq_k (fun K7 hK7 => ?_)
 refine wp_region_lit ?_
 refine seq_call hA rfl rfl rfl (enters_func rfl rfl (fun w => by kernel_rfl)) (awake_any) ?_
 rintro _ w9 ⟨rfl, hb8⟩
 replace hM := hM.call hb8
 refine ⟨_, rfl, ?_⟩
 intro a hA
 refine seq_do (v := .bool false) hA rfl rfl rfl (does_un rfl un_not) ?_
 intro a hA
 refine seq_do hA rfl rfl rfl (does_move rfl) ?_
 intro a hA
 refine seq_do hA rfl rfl rfl (m_loadS hM CoR_isS_23 rfl 0 rfl (cs := [.int .i64 c, .int .i64 k, .int .i64 0]) rfl rfl) ?_
 intro a hA
 refine seq_call hA rfl rfl rfl (enters_func rfl rfl (fun w => by kernel_rfl)) (check_any) ?_
 rintro _ w11 ⟨rfl, hb10⟩
 replace hM := hM.call hb10
 refine ⟨_, rfl, ?_⟩
 intro a hA
 rcases Bool.eq_false_or_eq_true ((checkS c k 0 != 0)) with hb12 | hb12
 · have hb12' := bne_iff_ne.1 hb12
   refine seq_do (v := .bool true) hA rfl rfl rfl (does_bin rfl rfl (fun w => (bin_neq w).trans (by rw [hb12]))) ?_
   intro a hA
   refine seq_do (v := .bool true) hA rfl rfl rfl (does_pick rfl rfl rfl rfl) ?_
   intro a hA
   refine seq_do hA rfl rfl rfl (does_move rfl) ?_
   intro a hA
   refine seq_skip hA rfl rfl rfl ?_
   intro a hA
   refine seq_skip hA rfl rfl rfl ?_
   intro a hA
   refine seq_skip hA rfl rfl rfl ?_
   intro a hA
   refine seq_do (v := .bool true) hA rfl rfl rfl (does_pick rfl rfl rfl rfl) ?_
   intro a hA
   refine seq_do hA rfl rfl rfl (does_move rfl) ?_
   intro a hA
   refine seq_skip hA rfl rfl rfl ?_
   intro a hA
   refine seq_skip hA rfl rfl rfl ?_
   intro a hA
   refine seq_skip hA rfl rfl rfl ?_
   intro a hA
   refine seq_do (v := .bool true) hA rfl rfl rfl (does_pick rfl rfl rfl rfl) ?_
   intro a hA
   refine seq_end ?_
   refine hK7 _ _ ?_
   refine wp_cond_true (hA.ev rfl) ?_
   refine wp_seq_k (fun K13 hK13 => ?_)
   refine wp_region_lit ?_
   refine seq_call hA rfl rfl rfl (enters_func rfl rfl (fun w => by kernel_rfl)) (awake_any) ?_
   rintro _ w15 ⟨rfl, hb14⟩
   replace hM := hM.call hb14
   refine ⟨_, rfl, ?_⟩
   intro a hA
   refine seq_do hA rfl rfl rfl (does_assign rfl) ?_
   intro a hA
   refine seq_end ?_
   refine hK13 _ _ ?_
   refine wp_ret ?_
   refine hret _ _ ?_
   refine ends (v := .bool true) hA rfl (.cons (res_tmp rfl) .nil) rfl ?_
   exact ⟨rfl, hM.bel⟩
 · have hb12' := bne_eq_false_iff_eq.1 hb12
   refine seq_do (v := .bool false) hA rfl rfl rfl (does_bin rfl rfl (fun w => (bin_neq w).trans (by rw [hb12]))) ?_
   intro a hA
   refine seq_do (v := .bool false) hA rfl rfl rfl (does_pick rfl rfl rfl rfl) ?_
   intro a hA
   refine seq_do hA rfl rfl rfl (does_move rfl) ?_
   intro a hA
   refine seq_do hA rfl rfl rfl (does_move rfl) ?_
   intro a hA
   refine seq_do (v := .int .i64 (((l.length : Nat) : Int))) hA rfl rfl rfl (does_len Try.underlying24 rfl) ?_
   intro a hA
   rcases Bool.eq_false_or_eq_true (decide (65536 < ((l.length : Nat) : Int))) with hb16 | hb16
   · have hb16' := of_decide_eq_true hb16
     refine seq_do (v := .bool true) hA rfl rfl rfl (does_bin rfl rfl (fun w => (bin_gtr w).trans (by rw [hb16]))) ?_
     intro a hA
     refine seq_do (v := .bool true) hA rfl rfl rfl (does_pick rfl rfl rfl rfl) ?_
     intro a hA
     refine seq_do hA rfl rfl rfl (does_move rfl) ?_
     intro a hA
     refine seq_skip hA rfl rfl rfl ?_
     intro a hA
     refine seq_skip hA rfl rfl rfl ?_
     intro a hA
     refine seq_skip hA rfl rfl rfl ?_
     intro a hA
     refine seq_do (v := .bool true) hA rfl rfl rfl (does_pick rfl rfl rfl rfl) ?_
     intro a hA
     refine seq_end ?_
     refine hK7 _ _ ?_
     refine wp_cond_true (hA.ev rfl) ?_
     refine wp_seq_k (fun K17 hK17 => ?_)
     refine wp_region_lit ?_
     refine seq_call hA rfl rfl rfl (enters_func rfl rfl (fun w => by kernel_rfl)) (awake_any) ?_
     rintro _ w19 ⟨rfl, hb18⟩
     replace hM := hM.call hb18
     refine ⟨_, rfl, ?_⟩
     intro a hA
     refine seq_do hA rfl rfl rfl (does_assign rfl) ?_
     intro a hA
     refine seq_end ?_
     refine hK17 _ _ ?_
     refine wp_ret ?_
     refine hret _ _ ?_
     refine ends (v := .bool true) hA rfl (.cons (res_tmp rfl) .nil) rfl ?_
     exact ⟨rfl, hM.bel⟩
   · have hb16' := of_decide_eq_false hb16
     refine seq_do (v := .bool false) hA rfl rfl rfl (does_bin rfl rfl (fun w => (bin_gtr w).trans (by rw [hb16]))) ?_
     intro a hA
     refine seq_do (v := .bool false) hA rfl rfl rfl (does_pick rfl rfl rfl rfl) ?_
     intro a hA
     refine seq_do hA rfl rfl rfl (does_move rfl) ?_
     intro a hA
     refine seq_do hA rfl rfl rfl (does_move rfl) ?_
     intro a hA
     refine seq_do (v := .int .i64 (((s.size : Nat) : Int))) hA rfl rfl rfl (does_builtin rfl (len_str Try.underlying9)) ?_
     intro a hA
     rcases Bool.eq_false_or_eq_true (decide (65536 < ((s.size : Nat) : Int))) with hb20 | hb20
     · have hb20' := of_decide_eq_true hb20
       refine seq_do (v := .bool true) hA rfl rfl rfl (does_bin rfl rfl (fun w => (bin_gtr w).trans (by rw [hb20]))) ?_
       intro a hA
       refine seq_do (v := .bool true) hA rfl rfl rfl (does_pick rfl rfl rfl rfl) ?_
       intro a hA
       refine seq_end ?_
       refine hK7 _ _ ?_
       refine wp_cond_true (hA.ev rfl) ?_
       refine wp_seq_k (fun K21 hK21 => ?_)
       refine wp_region_lit ?_
       refine seq_call hA rfl rfl rfl (enters_func rfl rfl (fun w => by kernel_rfl)) (awake_any) ?_
       rintro _ w23 ⟨rfl, hb22⟩
       replace hM := hM.call hb22
       refine ⟨_, rfl, ?_⟩
       intro a hA
       refine seq_do hA rfl rfl rfl (does_assign rfl) ?_
       intro a hA
       refine seq_end ?_
       refine hK21 _ _ ?_
       refine wp_ret ?_
       refine hret _ _ ?_
       refine ends (v := .bool true) hA rfl (.cons (res_tmp rfl) .nil) rfl ?_
       exact ⟨rfl, hM.bel⟩
     · have hb20' := of_decide_eq_false hb20
       refine seq_do (v := .bool false) hA rfl rfl rfl (does_bin rfl rfl (fun w => (bin_gtr w).trans (by rw [hb20]))) ?_
       intro a hA
       refine seq_do (v := .bool false) hA rfl rfl rfl (does_pick rfl rfl rfl rfl) ?_
       intro a hA
       refine seq_end ?_
       refine hK7 _ _ ?_
       refine wp_cond_false (hA.ev rfl) ?_
       refine wp_skip ?_
       refine hK6 _ _ ?_
       refine wp_seq_k (fun K24 hK24 => ?_)
       refine wp_region_lit ?_
       refine seq_do hA rfl rfl rfl (m_loadS hM CoR_isS_23 rfl 0 rfl (cs := [.int .i64 c, .int .i64 k, .int .i64 0]) rfl rfl) ?_
       intro a hA
       refine seq_do hA rfl rfl rfl (does_move rfl) ?_
       intro a hA
       obtain ⟨dz1, dz2, dzv, dzs, dzn⟩ := dec_modes (c := c) (k := k) (l := l) (by omega) (by omega)
       obtain ⟨ez1, ez2, ezv, ezs, ezn⟩ := enc_modes (c := c) (k := k) (s := s) (by omega) (by omega)
       have dzl : (⟨(decS c k 2 l).1.toArray⟩ : ByteArray).size ≤ (⟨(decS c k 1 l).1.toArray⟩ : ByteArray).size := by
         show (decS c k 2 l).1.toArray.size ≤ (decS c k 1 l).1.toArray.size
         rw [List.size_toArray, List.size_toArray]
         exact dzn
       refine seq_call hA rfl rfl rfl (enters_func rfl rfl (fun w => by kernel_rfl)) (decode_any (c := c) (k := k) (m := 0) (hb.below hM.bel) rfl) ?_
       rintro _ w26 ⟨rfl, hb25⟩
       replace hM := hM.call hb25
       refine ⟨_, rfl, ?_⟩
       intro a hA
       refine seq_do hA rfl rfl rfl (does_move rfl) ?_
       intro a hA
       refine seq_do (v := .string ((⟨(decS c k 0 l).1.toArray⟩ : ByteArray))) hA rfl rfl rfl (does_extract (vs := [.string ((⟨(decS c k 0 l).1.toArray⟩ : ByteArray)), .int .i64 ((decS c k 0 l).2.1), .int .i64 ((decS c k 0 l).2.2)]) rfl rfl) ?_
       intro a hA
       refine seq_do (v := .int .i64 ((decS c k 0 l).2.1)) hA rfl rfl rfl (does_extract (vs := [.string ((⟨(decS c k 0 l).1.toArray⟩ : ByteArray)), .int .i64 ((decS c k 0 l).2.1), .int .i64 ((decS c k 0 l).2.2)]) rfl rfl) ?_
       intro a hA
       refine seq_do (v := .int .i64 ((decS c k 0 l).2.2)) hA rfl rfl rfl (does_extract (vs := [.string ((⟨(decS c k 0 l).1.toArray⟩ : ByteArray)), .int .i64 ((decS c k 0 l).2.1), .int .i64 ((decS c k 0 l).2.2)]) rfl rfl) ?_
       intro a hA
       refine seq_do hA rfl rfl rfl (does_assign rfl) ?_
       intro a hA
       refine seq_do hA rfl rfl rfl (does_assign rfl) ?_
       intro a hA
       refine seq_do hA rfl rfl rfl (does_assign rfl) ?_
       intro a hA
       refine seq_end ?_
       refine hK24 _ _ ?_
       refine wp_seq_k (fun K27 hK27 => ?_)
       refine wp_region_lit ?_
       refine seq_do hA rfl rfl rfl (m_loadS hM CoR_isS_23 rfl 0 rfl (cs := [.int .i64 c, .int .i64 k, .int .i64 0]) rfl rfl) ?_
       intro a hA
       refine seq_do hA rfl rfl rfl (does_move rfl) ?_
       intro a hA
       refine seq_call hA rfl rfl rfl (enters_func rfl rfl (fun w => by kernel_rfl)) (encode_any (c := c) (k := k) (m := 0) (s := s) rfl) ?_
       rintro _ w33 ⟨v28, rfl, hn29, hM30⟩
       obtain ⟨so31, ca32, rfl⟩ := owns_slice (hM30.has 0 rfl)
       replace hM : Mg w w33 (.row BY 1 (.slice so31 ((encS c k 0 s).1.length) ca32) ((encS c k 0 s).1.length) ((Lib.byteCells (encS c k 0 s).1)) :: .obj g2 (.cells #[.int .i64 c, .int .i64 k, .int .i64 0] 23) :: []) := (hM.both hM30 (noBld_cons (by simp) (noBld_quiet quietL_nil)) (noBld_cons (by simp) (noBld_quiet quietL_nil)))
       refine ⟨_, rfl, ?_⟩
       intro a hA
       refine seq_do hA rfl rfl rfl (does_move rfl) ?_
       intro a hA
       refine seq_do (v := .slice so31 ((encS c k 0 s).1.length) ca32) hA rfl rfl rfl (does_extract (vs := [.slice so31 ((encS c k 0 s).1.length) ca32, .int .i64 ((encS c k 0 s).2.1), .int .i64 ((encS c k 0 s).2.2)]) rfl rfl) ?_
       intro a hA
       refine seq_do (v := .int .i64 ((encS c k 0 s).2.1)) hA rfl rfl rfl (does_extract (vs := [.slice so31 ((encS c k 0 s).1.length) ca32, .int .i64 ((encS c k 0 s).2.1), .int .i64 ((encS c k 0 s).2.2)]) rfl rfl) ?_
       intro a hA
       refine seq_do (v := .int .i64 ((encS c k 0 s).2.2)) hA rfl rfl rfl (does_extract (vs := [.slice so31 ((encS c k 0 s).1.length) ca32, .int .i64 ((encS c k 0 s).2.1), .int .i64 ((encS c k 0 s).2.2)]) rfl rfl) ?_
       intro a hA
       refine seq_do hA rfl rfl rfl (does_assign rfl) ?_
       intro a hA
       refine seq_do hA rfl rfl rfl (does_assign rfl) ?_
       intro a hA
       refine seq_do hA rfl rfl rfl (does_assign rfl) ?_
       intro a hA
       refine seq_end ?_
       refine hK27 _ _ ?_
       refine wp_seq_k (fun K34 hK34 => ?_)
       refine wp_region_lit ?_
       refine seq_do (v := .pointer (some ⟨g2, 2, none⟩)) hA rfl rfl rfl (does_field CoR_fld_23_2 rfl rfl) ?_
       intro a hA
       refine s_store (us := [.int .i64 c, .int .i64 k, .int .i64 1]) (L' := (.row BY 1 (.slice so31 ((encS c k 0 s).1.length) ca32) ((encS c k 0 s).1.length) ((Lib.byteCells (encS c k 0 s).1)) :: .obj g2 (.cells #[.int .i64 c, .int .i64 k, .int .i64 1] 23) :: [])) hA hM rfl rfl (m_store rfl rfl rfl (by kernel_rfl) hM 1 rfl rfl rfl) 1 rfl rfl rfl ?_
       intro w35 hM
       refine seq_end ?_
       refine hK34 _ _ ?_
       refine wp_seq_k (fun K36 hK36 => ?_)
       refine wp_region_lit ?_
       refine seq_do hA rfl rfl rfl (m_loadS hM CoR_isS_23 rfl 1 rfl (cs := [.int .i64 c, .int .i64 k, .int .i64 1]) rfl rfl) ?_
       intro a hA
       refine seq_do hA rfl rfl rfl (does_move rfl) ?_
       intro a hA
       refine seq_call hA rfl rfl rfl (enters_func rfl rfl (fun w => by kernel_rfl)) (decode_zero (c := c) (k := k) (m := 1) (hb.below hM.bel) dz1) ?_
       rintro _ w38 ⟨rfl, hb37⟩
       replace hM := hM.call hb37
       refine ⟨_, rfl, ?_⟩
       intro a hA
       refine seq_do hA rfl rfl rfl (does_move rfl) ?_
       intro a hA
       refine seq_do (v := .string ((⟨(decS c k 1 l).1.toArray⟩ : ByteArray))) hA rfl rfl rfl (does_extract (vs := [.string ((⟨(decS c k 1 l).1.toArray⟩ : ByteArray)), .int .i64 0, .int .i64 0]) rfl rfl) ?_
       intro a hA
       refine seq_do (v := .int .i64 0) hA rfl rfl rfl (does_extract (vs := [.string ((⟨(decS c k 1 l).1.toArray⟩ : ByteArray)), .int .i64 0, .int .i64 0]) rfl rfl) ?_
       intro a hA
       refine seq_do (v := .int .i64 0) hA rfl rfl rfl (does_extract (vs := [.string ((⟨(decS c k 1 l).1.toArray⟩ : ByteArray)), .int .i64 0, .int .i64 0]) rfl rfl) ?_
       intro a hA
       refine seq_do hA rfl rfl rfl (does_assign rfl) ?_
       intro a hA
       refine seq_do hA rfl rfl rfl (does_assign rfl) ?_
       intro a hA
       refine seq_do hA rfl rfl rfl (does_assign rfl) ?_
       intro a hA
       refine seq_end ?_
       refine hK36 _ _ ?_
       refine wp_seq_k (fun K39 hK39 => ?_)
       refine wp_region_lit ?_
       refine seq_do hA rfl rfl rfl (m_loadS hM CoR_isS_23 rfl 1 rfl (cs := [.int .i64 c, .int .i64 k, .int .i64 1]) rfl rfl) ?_
       intro a hA
       refine seq_do hA rfl rfl rfl (does_move rfl) ?_
       intro a hA
       refine seq_call hA rfl rfl rfl (enters_func rfl rfl (fun w => by kernel_rfl)) (encode_zero (c := c) (k := k) (m := 1) (s := s) ez1) ?_
       rintro _ w45 ⟨v40, rfl, hn41, hM42⟩
       obtain ⟨so43, ca44, rfl⟩ := owns_slice (hM42.has 0 rfl)
       replace hM : Mg w w45 (.row BY 1 (.slice so43 ((encS c k 1 s).1.length) ca44) ((encS c k 1 s).1.length) ((Lib.byteCells (encS c k 1 s).1)) :: .row BY 1 (.slice so31 ((encS c k 0 s).1.length) ca32) ((encS c k 0 s).1.length) ((Lib.byteCells (encS c k 0 s).1)) :: .obj g2 (.cells #[.int .i64 c, .int .i64 k, .int .i64 1] 23) :: []) := (hM.both hM42 (noBld_cons (by simp) (noBld_cons (by simp) (noBld_quiet quietL_nil))) (noBld_cons (by simp) (noBld_quiet quietL_nil)))
       refine ⟨_, rfl, ?_⟩
       intro a hA
       refine seq_do hA rfl rfl rfl (does_move rfl) ?_
       intro a hA
       refine seq_do (v := .slice so43 ((encS c k 1 s).1.length) ca44) hA rfl rfl rfl (does_extract (vs := [.slice so43 ((encS c k 1 s).1.length) ca44, .int .i64 0, .int .i64 0]) rfl rfl) ?_
       intro a hA
       refine seq_do (v := .int .i64 0) hA rfl rfl rfl (does_extract (vs := [.slice so43 ((encS c k 1 s).1.length) ca44, .int .i64 0, .int .i64 0]) rfl rfl) ?_
       intro a hA
       refine seq_do (v := .int .i64 0) hA rfl rfl rfl (does_extract (vs := [.slice so43 ((encS c k 1 s).1.length) ca44, .int .i64 0, .int .i64 0]) rfl rfl) ?_
       intro a hA
       refine seq_do hA rfl rfl rfl (does_assign rfl) ?_
       intro a hA
       refine seq_do hA rfl rfl rfl (does_assign rfl) ?_
       intro a hA
       refine seq_do hA rfl rfl rfl (does_assign rfl) ?_
       intro a hA
       refine seq_end ?_
       refine hK39 _ _ ?_
       refine wp_seq_k (fun K46 hK46 => ?_)
       refine wp_region_lit ?_
       refine seq_do (v := .pointer (some ⟨g2, 2, none⟩)) hA rfl rfl rfl (does_field CoR_fld_23_2 rfl rfl) ?_
       intro a hA
       refine s_store (us := [.int .i64 c, .int .i64 k, .int .i64 2]) (L' := (.row BY 1 (.slice so43 ((encS c k 1 s).1.length) ca44) ((encS c k 1 s).1.length) ((Lib.byteCells (encS c k 1 s).1)) :: .row BY 1 (.slice so31 ((encS c k 0 s).1.length) ca32) ((encS c k 0 s).1.length) ((Lib.byteCells (encS c k 0 s).1)) :: .obj g2 (.cells #[.int .i64 c, .int .i64 k, .int .i64 2] 23) :: [])) hA hM rfl rfl (m_store rfl rfl rfl (by kernel_rfl) hM 2 rfl rfl rfl) 2 rfl rfl rfl ?_
       intro w47 hM
       refine seq_end ?_
       refine hK46 _ _ ?_
       refine wp_seq_k (fun K48 hK48 => ?_)
       refine wp_region_lit ?_
       refine seq_do hA rfl rfl rfl (m_loadS hM CoR_isS_23 rfl 2 rfl (cs := [.int .i64 c, .int .i64 k, .int .i64 2]) rfl rfl) ?_
       intro a hA
       refine seq_do hA rfl rfl rfl (does_move rfl) ?_
       intro a hA
       refine seq_call hA rfl rfl rfl (enters_func rfl rfl (fun w => by kernel_rfl)) (decode_zero (c := c) (k := k) (m := 2) (hb.below hM.bel) dz2) ?_
       rintro _ w50 ⟨rfl, hb49⟩
       replace hM := hM.call hb49
       refine ⟨_, rfl, ?_⟩
       intro a hA
       refine seq_do hA rfl rfl rfl (does_move rfl) ?_
       intro a hA
       refine seq_do (v := .string ((⟨(decS c k 2 l).1.toArray⟩ : ByteArray))) hA rfl rfl rfl (does_extract (vs := [.string ((⟨(decS c k 2 l).1.toArray⟩ : ByteArray)), .int .i64 0, .int .i64 0]) rfl rfl) ?_
       intro a hA
       refine seq_do (v := .int .i64 0) hA rfl rfl rfl (does_extract (vs := [.string ((⟨(decS c k 2 l).1.toArray⟩ : ByteArray)), .int .i64 0, .int .i64 0]) rfl rfl) ?_
       intro a hA
       refine seq_do (v := .int .i64 0) hA rfl rfl rfl (does_extract (vs := [.string ((⟨(decS c k 2 l).1.toArray⟩ : ByteArray)), .int .i64 0, .int .i64 0]) rfl rfl) ?_
       intro a hA
       refine seq_do hA rfl rfl rfl (does_assign rfl) ?_
       intro a hA
       refine seq_do hA rfl rfl rfl (does_assign rfl) ?_
       intro a hA
       refine seq_do hA rfl rfl rfl (does_assign rfl) ?_
       intro a hA
       refine seq_end ?_
       refine hK48 _ _ ?_
       refine wp_seq_k (fun K51 hK51 => ?_)
       refine wp_region_lit ?_
       refine seq_do hA rfl rfl rfl (m_loadS hM CoR_isS_23 rfl 2 rfl (cs := [.int .i64 c, .int .i64 k, .int .i64 2]) rfl rfl) ?_
       intro a hA
       refine seq_do hA rfl rfl rfl (does_move rfl) ?_
       intro a hA
       refine seq_call hA rfl rfl rfl (enters_func rfl rfl (fun w => by kernel_rfl)) (encode_zero (c := c) (k := k) (m := 2) (s := s) ez2) ?_
       rintro _ w57 ⟨v52, rfl, hn53, hM54⟩
       obtain ⟨so55, ca56, rfl⟩ := owns_slice (hM54.has 0 rfl)
       replace hM : Mg w w57 (.row BY 1 (.slice so55 ((encS c k 2 s).1.length) ca56) ((encS c k 2 s).1.length) ((Lib.byteCells (encS c k 2 s).1)) :: .row BY 1 (.slice so43 ((encS c k 1 s).1.length) ca44) ((encS c k 1 s).1.length) ((Lib.byteCells (encS c k 1 s).1)) :: .row BY 1 (.slice so31 ((encS c k 0 s).1.length) ca32) ((encS c k 0 s).1.length) ((Lib.byteCells (encS c k 0 s).1)) :: .obj g2 (.cells #[.int .i64 c, .int .i64 k, .int .i64 2] 23) :: []) := (hM.both hM54 (noBld_cons (by simp) (noBld_cons (by simp) (noBld_cons (by simp) (noBld_quiet quietL_nil)))) (noBld_cons (by simp) (noBld_quiet quietL_nil)))
       refine ⟨_, rfl, ?_⟩
       intro a hA
       refine seq_do hA rfl rfl rfl (does_move rfl) ?_
       intro a hA
       refine seq_do (v := .slice so55 ((encS c k 2 s).1.length) ca56) hA rfl rfl rfl (does_extract (vs := [.slice so55 ((encS c k 2 s).1.length) ca56, .int .i64 0, .int .i64 0]) rfl rfl) ?_
       intro a hA
       refine seq_do (v := .int .i64 0) hA rfl rfl rfl (does_extract (vs := [.slice so55 ((encS c k 2 s).1.length) ca56, .int .i64 0, .int .i64 0]) rfl rfl) ?_
       intro a hA
       refine seq_do (v := .int .i64 0) hA rfl rfl rfl (does_extract (vs := [.slice so55 ((encS c k 2 s).1.length) ca56, .int .i64 0, .int .i64 0]) rfl rfl) ?_
       intro a hA
       refine seq_do hA rfl rfl rfl (does_assign rfl) ?_
       intro a hA
       refine seq_do hA rfl rfl rfl (does_assign rfl) ?_
       intro a hA
       refine seq_do hA rfl rfl rfl (does_assign rfl) ?_
       intro a hA
       refine seq_end ?_
       refine hK51 _ _ ?_
       refine wp_seq_k (fun K58 hK58 => ?_)
       refine wp_seq_k (fun K59 hK59 => ?_)
       refine wp_region_lit ?_
       refine seq_do hA rfl rfl rfl (does_move rfl) ?_
       intro a hA
       refine seq_do (v := .bool false) hA rfl rfl rfl (does_bin rfl rfl (fun w => by kernel_rfl)) ?_
       intro a hA
       refine seq_do hA rfl rfl rfl (does_move rfl) ?_
       intro a hA
       refine seq_do hA rfl rfl rfl (does_move rfl) ?_
       intro a hA
       refine seq_do (v := .bool false) hA rfl rfl rfl (does_bin rfl rfl (fun w => by kernel_rfl)) ?_
       intro a hA
       refine seq_do (v := .bool false) hA rfl rfl rfl (does_pick rfl rfl rfl rfl) ?_
       intro a hA
       refine seq_do hA rfl rfl rfl (does_move rfl) ?_
       intro a hA
       refine seq_do hA rfl rfl rfl (does_move rfl) ?_
       intro a hA
       refine seq_do (v := .bool false) hA rfl rfl rfl (does_bin rfl rfl (fun w => by kernel_rfl)) ?_
       intro a hA
       refine seq_do (v := .bool false) hA rfl rfl rfl (does_pick rfl rfl rfl rfl) ?_
       intro a hA
       refine seq_do hA rfl rfl rfl (does_move rfl) ?_
       intro a hA
       refine seq_do hA rfl rfl rfl (does_move rfl) ?_
       intro a hA
       refine seq_do (v := .bool false) hA rfl rfl rfl (does_bin rfl rfl (fun w => by kernel_rfl)) ?_
       intro a hA
       refine seq_do (v := .bool false) hA rfl rfl rfl (does_pick rfl rfl rfl rfl) ?_
       intro a hA
       refine seq_do hA rfl rfl rfl (does_move rfl) ?_
       intro a hA
       refine seq_do hA rfl rfl rfl (does_move rfl) ?_
       intro a hA
       rcases Bool.eq_false_or_eq_true (((decS c k 0 l).2.2 != 0)) with hb60 | hb60
       · have hb60' := bne_iff_ne.1 hb60
         refine seq_do (v := .bool true) hA rfl rfl rfl (does_bin rfl rfl (fun w => (bin_neq w).trans (by rw [hb60]))) ?_
         intro a hA
         refine seq_do hA rfl rfl rfl (does_move rfl) ?_
         intro a hA
         refine seq_do hA rfl rfl rfl (does_move rfl) ?_
         intro a hA
         rcases Bool.eq_false_or_eq_true (((decS c k 0 l).2.2 != 6)) with hb61 | hb61
         · have hb61' := bne_iff_ne.1 hb61
           refine seq_do (v := .bool true) hA rfl rfl rfl (does_bin rfl rfl (fun w => (bin_neq w).trans (by rw [hb61]))) ?_
           intro a hA
           refine seq_do (v := .bool true) hA rfl rfl rfl (does_pick rfl rfl rfl rfl) ?_
           intro a hA
           refine seq_do (v := .bool true) hA rfl rfl rfl (does_pick rfl rfl rfl rfl) ?_
           intro a hA
           refine seq_do hA rfl rfl rfl (does_move rfl) ?_
           intro a hA
           refine seq_skip hA rfl rfl rfl ?_
           intro a hA
           refine seq_skip hA rfl rfl rfl ?_
           intro a hA
           refine seq_skip hA rfl rfl rfl ?_
           intro a hA
           refine seq_skipU hA rfl rfl rfl ?_
           intro a hA
           refine seq_skipU hA rfl rfl rfl ?_
           intro a hA
           refine seq_skip hA rfl rfl rfl ?_
           intro a hA
           refine seq_do (v := .bool true) hA rfl rfl rfl (does_pick rfl rfl rfl rfl) ?_
           intro a hA
           refine seq_end ?_
           refine hK59 _ _ ?_
           refine wp_cond_true (hA.ev rfl) ?_
           refine wp_seq_k (fun K62 hK62 => ?_)
           refine wp_region_lit ?_
           refine seq_do hA rfl rfl rfl (does_assign rfl) ?_
           intro a hA
           refine seq_end ?_
           refine hK62 _ _ ?_
           refine wp_ret ?_
           refine hret _ _ ?_
           refine ends (v := .bool false) hA rfl (.cons (res_tmp rfl) .nil) rfl ?_
           exfalso; omega
         · have hb61' := bne_eq_false_iff_eq.1 hb61
           refine seq_do (v := .bool false) hA rfl rfl rfl (does_bin rfl rfl (fun w => (bin_neq w).trans (by rw [hb61]))) ?_
           intro a hA
           refine seq_do (v := .bool false) hA rfl rfl rfl (does_pick rfl rfl rfl rfl) ?_
           intro a hA
           refine seq_do (v := .bool false) hA rfl rfl rfl (does_pick rfl rfl rfl rfl) ?_
           intro a hA
           refine seq_do hA rfl rfl rfl (does_move rfl) ?_
           intro a hA
           refine seq_do hA rfl rfl rfl (does_move rfl) ?_
           intro a hA
           rcases Bool.eq_false_or_eq_true (((encS c k 0 s).2.2 != 0)) with hb63 | hb63
           · have hb63' := bne_iff_ne.1 hb63
             refine seq_do (v := .bool true) hA rfl rfl rfl (does_bin rfl rfl (fun w => (bin_neq w).trans (by rw [hb63]))) ?_
             intro a hA
             refine seq_do hA rfl rfl rfl (does_move rfl) ?_
             intro a hA
             refine seq_do hA rfl rfl rfl (does_move rfl) ?_
             intro a hA
             rcases Bool.eq_false_or_eq_true (((encS c k 0 s).2.2 != 6)) with hb64 | hb64
             · have hb64' := bne_iff_ne.1 hb64
               refine seq_do (v := .bool true) hA rfl rfl rfl (does_bin rfl rfl (fun w => (bin_neq w).trans (by rw [hb64]))) ?_
               intro a hA
               refine seq_do (v := .bool true) hA rfl rfl rfl (does_pick rfl rfl rfl rfl) ?_
               intro a hA
               refine seq_do (v := .bool true) hA rfl rfl rfl (does_pick rfl rfl rfl rfl) ?_
               intro a hA
               refine seq_end ?_
               refine hK59 _ _ ?_
               refine wp_cond_true (hA.ev rfl) ?_
               refine wp_seq_k (fun K65 hK65 => ?_)
               refine wp_region_lit ?_
               refine seq_do hA rfl rfl rfl (does_assign rfl) ?_
               intro a hA
               refine seq_end ?_
               refine hK65 _ _ ?_
               refine wp_ret ?_
               refine hret _ _ ?_
               refine ends (v := .bool false) hA rfl (.cons (res_tmp rfl) .nil) rfl ?_
               exfalso; omega
             · have hb64' := bne_eq_false_iff_eq.1 hb64
               refine seq_do (v := .bool false) hA rfl rfl rfl (does_bin rfl rfl (fun w => (bin_neq w).trans (by rw [hb64]))) ?_
               intro a hA
               refine seq_do (v := .bool false) hA rfl rfl rfl (does_pick rfl rfl rfl rfl) ?_
               intro a hA
               refine seq_do (v := .bool false) hA rfl rfl rfl (does_pick rfl rfl rfl rfl) ?_
               intro a hA
               refine seq_end ?_
               refine hK59 _ _ ?_
               refine wp_cond_false (hA.ev rfl) ?_
               refine wp_skip ?_
               refine hK58 _ _ ?_
               refine wp_seq_k (fun K66 hK66 => ?_)
               refine wp_region_lit ?_
               refine seq_do hA rfl rfl rfl (does_move rfl) ?_
               intro a hA
               refine seq_do (v := .bool true) hA rfl rfl rfl (does_bin rfl rfl (fun w => (bin_neq w).trans (by rw [show (((decS c k 0 l).2.2 != 0)) = true from hb60]))) ?_
               intro a hA
               refine seq_do hA rfl rfl rfl (does_move rfl) ?_
               intro a hA
               refine seq_skip hA rfl rfl rfl ?_
               intro a hA
               refine seq_skip hA rfl rfl rfl ?_
               intro a hA
               refine seq_skip hA rfl rfl rfl ?_
               intro a hA
               refine seq_skip hA rfl rfl rfl ?_
               intro a hA
               refine seq_skipU hA rfl rfl rfl ?_
               intro a hA
               refine seq_skipU hA rfl rfl rfl ?_
               intro a hA
               refine seq_skipU hA rfl rfl rfl ?_
               intro a hA
               refine seq_skip hA rfl rfl rfl ?_
               intro a hA
               refine seq_do (v := .bool true) hA rfl rfl rfl (does_pick rfl rfl rfl rfl) ?_
               intro a hA
               refine seq_do hA rfl rfl rfl (does_move rfl) ?_
               intro a hA
               refine seq_do hA rfl rfl rfl (does_move rfl) ?_
               intro a hA
               refine seq_do (v := .bool true) hA rfl rfl rfl (does_bin rfl rfl (fun w => (bin_neq w).trans (by rw [show (((encS c k 0 s).2.2 != 0)) = true from hb63]))) ?_
               intro a hA
               refine seq_do hA rfl rfl rfl (does_move rfl) ?_
               intro a hA
               refine seq_skip hA rfl rfl rfl ?_
               intro a hA
               refine seq_skip hA rfl rfl rfl ?_
               intro a hA
               refine seq_skip hA rfl rfl rfl ?_
               intro a hA
               refine seq_skip hA rfl rfl rfl ?_
               intro a hA
               refine seq_skipU hA rfl rfl rfl ?_
               intro a hA
               refine seq_skipU hA rfl rfl rfl ?_
               intro a hA
               refine seq_skipU hA rfl rfl rfl ?_
               intro a hA
               refine seq_skip hA rfl rfl rfl ?_
               intro a hA
               refine seq_do (v := .bool true) hA rfl rfl rfl (does_pick rfl rfl rfl rfl) ?_
               intro a hA
               refine seq_do (v := .bool true) hA rfl rfl rfl (does_pick rfl rfl rfl rfl) ?_
               intro a hA
               refine seq_do hA rfl rfl rfl (does_move rfl) ?_
               intro a hA
               refine seq_do hA rfl rfl rfl (does_move rfl) ?_
               intro a hA
               refine seq_do (v := .int .i64 (((((⟨(decS c k 2 l).1.toArray⟩ : ByteArray)).size : Nat) : Int))) hA rfl rfl rfl (does_builtin rfl (len_str Try.underlying9)) ?_
               intro a hA
               refine seq_do hA rfl rfl rfl (does_move rfl) ?_
               intro a hA
               refine seq_do (v := .int .i64 (((((⟨(decS c k 1 l).1.toArray⟩ : ByteArray)).size : Nat) : Int))) hA rfl rfl rfl (does_builtin rfl (len_str Try.underlying9)) ?_
               intro a hA
               rcases Bool.eq_false_or_eq_true (decide (((((⟨(decS c k 2 l).1.toArray⟩ : ByteArray)).size : Nat) : Int) ≤ ((((⟨(decS c k 1 l).1.toArray⟩ : ByteArray)).size : Nat) : Int))) with hb67 | hb67
               · have hb67' := of_decide_eq_true hb67
                 refine seq_do (v := .bool true) hA rfl rfl rfl (does_bin rfl rfl (fun w => (bin_leq w).trans (by rw [hb67]))) ?_
                 intro a hA
                 refine seq_do (v := .bool true) hA rfl rfl rfl (does_pick rfl rfl rfl rfl) ?_
                 intro a hA
                 refine seq_do hA rfl rfl rfl (does_move rfl) ?_
                 intro a hA
                 refine seq_do hA rfl rfl rfl (does_move rfl) ?_
                 intro a hA
                 refine seq_do (v := .int .i64 ((((encS c k 2 s).1.length : Nat) : Int))) hA rfl rfl rfl (does_len Try.underlying24 rfl) ?_
                 intro a hA
                 refine seq_do hA rfl rfl rfl (does_move rfl) ?_
                 intro a hA
                 refine seq_do (v := .int .i64 ((((encS c k 1 s).1.length : Nat) : Int))) hA rfl rfl rfl (does_len Try.underlying24 rfl) ?_
                 intro a hA
                 rcases Bool.eq_false_or_eq_true (decide ((((encS c k 2 s).1.length : Nat) : Int) ≤ (((encS c k 1 s).1.length : Nat) : Int))) with hb68 | hb68
                 · have hb68' := of_decide_eq_true hb68
                   refine seq_do (v := .bool true) hA rfl rfl rfl (does_bin rfl rfl (fun w => (bin_leq w).trans (by rw [hb68]))) ?_
                   intro a hA
                   refine seq_do (v := .bool true) hA rfl rfl rfl (does_pick rfl rfl rfl rfl) ?_
                   intro a hA
                   refine seq_do hA rfl rfl rfl (does_assign rfl) ?_
                   intro a hA
                   refine seq_end ?_
                   refine hK66 _ _ ?_
                   refine wp_ret ?_
                   refine hret _ _ ?_
                   refine ends (v := .bool true) hA rfl (.cons (res_tmp rfl) .nil) rfl ?_
                   exact ⟨rfl, hM.bel⟩
                 · have hb68' := of_decide_eq_false hb68
                   refine seq_do (v := .bool false) hA rfl rfl rfl (does_bin rfl rfl (fun w => (bin_leq w).trans (by rw [hb68]))) ?_
                   intro a hA
                   refine seq_do (v := .bool false) hA rfl rfl rfl (does_pick rfl rfl rfl rfl) ?_
                   intro a hA
                   refine seq_do hA rfl rfl rfl (does_assign rfl) ?_
                   intro a hA
                   refine seq_end ?_
                   refine hK66 _ _ ?_
                   refine wp_ret ?_
                   refine hret _ _ ?_
                   refine ends (v := .bool false) hA rfl (.cons (res_tmp rfl) .nil) rfl ?_
                   exfalso; omega
               · have hb67' := of_decide_eq_false hb67
                 refine seq_do (v := .bool false) hA rfl rfl rfl (does_bin rfl rfl (fun w => (bin_leq w).trans (by rw [hb67]))) ?_
                 intro a hA
                 refine seq_do (v := .bool false) hA rfl rfl rfl (does_pick rfl rfl rfl rfl) ?_
                 intro a hA
                 refine seq_do hA rfl rfl rfl (does_move rfl) ?_
                 intro a hA
                 refine seq_skip hA rfl rfl rfl ?_
                 intro a hA
                 refine seq_skip hA rfl rfl rfl ?_
                 intro a hA
                 refine seq_skip hA rfl rfl rfl ?_
                 intro a hA
                 refine seq_skip hA rfl rfl rfl ?_
                 intro a hA
                 refine seq_skip hA rfl rfl rfl ?_
                 intro a hA
                 refine seq_do (v := .bool false) hA rfl rfl rfl (does_pick rfl rfl rfl rfl) ?_
                 intro a hA
                 refine seq_do hA rfl rfl rfl (does_assign rfl) ?_
                 intro a hA
                 refine seq_end ?_
                 refine hK66 _ _ ?_
                 refine wp_ret ?_
                 refine hret _ _ ?_
                 refine ends (v := .bool false) hA rfl (.cons (res_tmp rfl) .nil) rfl ?_
                 exfalso; omega
           · have hb63' := bne_eq_false_iff_eq.1 hb63
             refine seq_do (v := .bool false) hA rfl rfl rfl (does_bin rfl rfl (fun w => (bin_neq w).trans (by rw [hb63]))) ?_
             intro a hA
             refine seq_do hA rfl rfl rfl (does_move rfl) ?_
             intro a hA
             refine seq_skip hA rfl rfl rfl ?_
             intro a hA
             refine seq_skip hA rfl rfl rfl ?_
             intro a hA
             refine seq_do (v := .bool false) hA rfl rfl rfl (does_pick rfl rfl rfl rfl) ?_
             intro a hA
             refine seq_do (v := .bool false) hA rfl rfl rfl (does_pick rfl rfl rfl rfl) ?_
             intro a hA
             refine seq_end ?_
             refine hK59 _ _ ?_
             refine wp_cond_false (hA.ev rfl) ?_
             refine wp_skip ?_
             refine hK58 _ _ ?_
             refine wp_seq_k (fun K69 hK69 => ?_)
             refine wp_region_lit ?_
             refine seq_do hA rfl rfl rfl (does_move rfl) ?_
             intro a hA
             refine seq_do (v := .bool true) hA rfl rfl rfl (does_bin rfl rfl (fun w => (bin_neq w).trans (by rw [show (((decS c k 0 l).2.2 != 0)) = true from hb60]))) ?_
             intro a hA
             refine seq_do hA rfl rfl rfl (does_move rfl) ?_
             intro a hA
             refine seq_skip hA rfl rfl rfl ?_
             intro a hA
             refine seq_skip hA rfl rfl rfl ?_
             intro a hA
             refine seq_skip hA rfl rfl rfl ?_
             intro a hA
             refine seq_skip hA rfl rfl rfl ?_
             intro a hA
             refine seq_skipU hA rfl rfl rfl ?_
             intro a hA
             refine seq_skipU hA rfl rfl rfl ?_
             intro a hA
             refine seq_skipU hA rfl rfl rfl ?_
             intro a hA
             refine seq_skip hA rfl rfl rfl ?_
             intro a hA
             refine seq_do (v := .bool true) hA rfl rfl rfl (does_pick rfl rfl rfl rfl) ?_
             intro a hA
             refine seq_do hA rfl rfl rfl (does_move rfl) ?_
             intro a hA
             refine seq_do hA rfl rfl rfl (does_move rfl) ?_
             intro a hA
             refine seq_do (v := .bool false) hA rfl rfl rfl (does_bin rfl rfl (fun w => (bin_neq w).trans (by rw [show (((encS c k 0 s).2.2 != 0)) = false from hb63]))) ?_
             intro a hA
             refine seq_do hA rfl rfl rfl (does_move rfl) ?_
             intro a hA
             refine seq_do hA rfl rfl rfl (does_move rfl) ?_
             intro a hA
             refine seq_do hA rfl rfl rfl (does_move rfl) ?_
             intro a hA
             refine seq_call hA rfl rfl rfl (enters_func rfl rfl (fun w => by kernel_rfl)) (same_eq hM 2 1 (xs := (encS c k 0 s).1) (ys := (encS c k 1 s).1) rfl rfl (by omega) (ezs (by omega)).1) ?_
             rintro _ w71 ⟨rfl, hb70⟩
             replace hM := hM.call hb70
             refine ⟨_, rfl, ?_⟩
             intro a hA
             refine seq_do hA rfl rfl rfl (does_move rfl) ?_
             intro a hA
             refine seq_do hA rfl rfl rfl (does_move rfl) ?_
             intro a hA
             refine seq_do hA rfl rfl rfl (does_move rfl) ?_
             intro a hA
             refine seq_call hA rfl rfl rfl (enters_func rfl rfl (fun w => by kernel_rfl)) (same_eq hM 2 0 (xs := (encS c k 0 s).1) (ys := (encS c k 2 s).1) rfl rfl (by omega) (ezs (by omega)).2) ?_
             rintro _ w73 ⟨rfl, hb72⟩
             replace hM := hM.call hb72
             refine ⟨_, rfl, ?_⟩
             intro a hA
             refine seq_do (v := .bool true) hA rfl rfl rfl (does_pick rfl rfl rfl rfl) ?_
             intro a hA
             refine seq_do (v := .bool true) hA rfl rfl rfl (does_pick rfl rfl rfl rfl) ?_
             intro a hA
             refine seq_do (v := .bool true) hA rfl rfl rfl (does_pick rfl rfl rfl rfl) ?_
             intro a hA
             refine seq_do hA rfl rfl rfl (does_move rfl) ?_
             intro a hA
             refine seq_do hA rfl rfl rfl (does_move rfl) ?_
             intro a hA
             refine seq_do (v := .int .i64 (((((⟨(decS c k 2 l).1.toArray⟩ : ByteArray)).size : Nat) : Int))) hA rfl rfl rfl (does_builtin rfl (len_str Try.underlying9)) ?_
             intro a hA
             refine seq_do hA rfl rfl rfl (does_move rfl) ?_
             intro a hA
             refine seq_do (v := .int .i64 (((((⟨(decS c k 1 l).1.toArray⟩ : ByteArray)).size : Nat) : Int))) hA rfl rfl rfl (does_builtin rfl (len_str Try.underlying9)) ?_
             intro a hA
             rcases Bool.eq_false_or_eq_true (decide (((((⟨(decS c k 2 l).1.toArray⟩ : ByteArray)).size : Nat) : Int) ≤ ((((⟨(decS c k 1 l).1.toArray⟩ : ByteArray)).size : Nat) : Int))) with hb74 | hb74
             · have hb74' := of_decide_eq_true hb74
               refine seq_do (v := .bool true) hA rfl rfl rfl (does_bin rfl rfl (fun w => (bin_leq w).trans (by rw [hb74]))) ?_
               intro a hA
               refine seq_do (v := .bool true) hA rfl rfl rfl (does_pick rfl rfl rfl rfl) ?_
               intro a hA
               refine seq_do hA rfl rfl rfl (does_move rfl) ?_
               intro a hA
               refine seq_do hA rfl rfl rfl (does_move rfl) ?_
               intro a hA
               refine seq_do (v := .int .i64 ((((encS c k 2 s).1.length : Nat) : Int))) hA rfl rfl rfl (does_len Try.underlying24 rfl) ?_
               intro a hA
               refine seq_do hA rfl rfl rfl (does_move rfl) ?_
               intro a hA
               refine seq_do (v := .int .i64 ((((encS c k 1 s).1.length : Nat) : Int))) hA rfl rfl rfl (does_len Try.underlying24 rfl) ?_
               intro a hA
               rcases Bool.eq_false_or_eq_true (decide ((((encS c k 2 s).1.length : Nat) : Int) ≤ (((encS c k 1 s).1.length : Nat) : Int))) with hb75 | hb75
               · have hb75' := of_decide_eq_true hb75
                 refine seq_do (v := .bool true) hA rfl rfl rfl (does_bin rfl rfl (fun w => (bin_leq w).trans (by rw [hb75]))) ?_
                 intro a hA
                 refine seq_do (v := .bool true) hA rfl rfl rfl (does_pick rfl rfl rfl rfl) ?_
                 intro a hA
                 refine seq_do hA rfl rfl rfl (does_assign rfl) ?_
                 intro a hA
                 refine seq_end ?_
                 refine hK69 _ _ ?_
                 refine wp_ret ?_
                 refine hret _ _ ?_
                 refine ends (v := .bool true) hA rfl (.cons (res_tmp rfl) .nil) rfl ?_
                 exact ⟨rfl, hM.bel⟩
               · have hb75' := of_decide_eq_false hb75
                 refine seq_do (v := .bool false) hA rfl rfl rfl (does_bin rfl rfl (fun w => (bin_leq w).trans (by rw [hb75]))) ?_
                 intro a hA
                 refine seq_do (v := .bool false) hA rfl rfl rfl (does_pick rfl rfl rfl rfl) ?_
                 intro a hA
                 refine seq_do hA rfl rfl rfl (does_assign rfl) ?_
                 intro a hA
                 refine seq_end ?_
                 refine hK69 _ _ ?_
                 refine wp_ret ?_
                 refine hret _ _ ?_
                 refine ends (v := .bool false) hA rfl (.cons (res_tmp rfl) .nil) rfl ?_
                 exfalso; omega
             · have hb74' := of_decide_eq_false hb74
               refine seq_do (v := .bool false) hA rfl rfl rfl (does_bin rfl rfl (fun w => (bin_leq w).trans (by rw [hb74]))) ?_
               intro a hA
               refine seq_do (v := .bool false) hA rfl rfl rfl (does_pick rfl rfl rfl rfl) ?_
               intro a hA
               refine seq_do hA rfl rfl rfl (does_move rfl) ?_
               intro a hA
               refine seq_skip hA rfl rfl rfl ?_
               intro a hA
               refine seq_skip hA rfl rfl rfl ?_
               intro a hA
               refine seq_skip hA rfl rfl rfl ?_
               intro a hA
               refine seq_skip hA rfl rfl rfl ?_
               intro a hA
               refine seq_skip hA rfl rfl rfl ?_
               intro a hA
               refine seq_do (v := .bool false) hA rfl rfl rfl (does_pick rfl rfl rfl rfl) ?_
               intro a hA
               refine seq_do hA rfl rfl rfl (does_assign rfl) ?_
               intro a hA
               refine seq_end ?_
               refine hK69 _ _ ?_
               refine wp_ret ?_
               refine hret _ _ ?_
               refine ends (v := .bool false) hA rfl (.cons (res_tmp rfl) .nil) rfl ?_
               exfalso; omega
       · have hb60' := bne_eq_false_iff_eq.1 hb60
         refine seq_do (v := .bool false) hA rfl rfl rfl (does_bin rfl rfl (fun w => (bin_neq w).trans (by rw [hb60]))) ?_
         intro a hA
         refine seq_do hA rfl rfl rfl (does_move rfl) ?_
         intro a hA
         refine seq_skip hA rfl rfl rfl ?_
         intro a hA
         refine seq_skip hA rfl rfl rfl ?_
         intro a hA
         refine seq_do (v := .bool false) hA rfl rfl rfl (does_pick rfl rfl rfl rfl) ?_
         intro a hA
         refine seq_do (v := .bool false) hA rfl rfl rfl (does_pick rfl rfl rfl rfl) ?_
         intro a hA
         refine seq_do hA rfl rfl rfl (does_move rfl) ?_
         intro a hA
         refine seq_do hA rfl rfl rfl (does_move rfl) ?_
         intro a hA
         rcases Bool.eq_false_or_eq_true (((encS c k 0 s).2.2 != 0)) with hb76 | hb76
         · have hb76' := bne_iff_ne.1 hb76
           refine seq_do (v := .bool true) hA rfl rfl rfl (does_bin rfl rfl (fun w => (bin_neq w).trans (by rw [hb76]))) ?_
           intro a hA
           refine seq_do hA rfl rfl rfl (does_move rfl) ?_
           intro a hA
           refine seq_do hA rfl rfl rfl (does_move rfl) ?_
           intro a hA
           rcases Bool.eq_false_or_eq_true (((encS c k 0 s).2.2 != 6)) with hb77 | hb77
           · have hb77' := bne_iff_ne.1 hb77
             refine seq_do (v := .bool true) hA rfl rfl rfl (does_bin rfl rfl (fun w => (bin_neq w).trans (by rw [hb77]))) ?_
             intro a hA
             refine seq_do (v := .bool true) hA rfl rfl rfl (does_pick rfl rfl rfl rfl) ?_
             intro a hA
             refine seq_do (v := .bool true) hA rfl rfl rfl (does_pick rfl rfl rfl rfl) ?_
             intro a hA
             refine seq_end ?_
             refine hK59 _ _ ?_
             refine wp_cond_true (hA.ev rfl) ?_
             refine wp_seq_k (fun K78 hK78 => ?_)
             refine wp_region_lit ?_
             refine seq_do hA rfl rfl rfl (does_assign rfl) ?_
             intro a hA
             refine seq_end ?_
             refine hK78 _ _ ?_
             refine wp_ret ?_
             refine hret _ _ ?_
             refine ends (v := .bool false) hA rfl (.cons (res_tmp rfl) .nil) rfl ?_
             exfalso; omega
           · have hb77' := bne_eq_false_iff_eq.1 hb77
             refine seq_do (v := .bool false) hA rfl rfl rfl (does_bin rfl rfl (fun w => (bin_neq w).trans (by rw [hb77]))) ?_
             intro a hA
             refine seq_do (v := .bool false) hA rfl rfl rfl (does_pick rfl rfl rfl rfl) ?_
             intro a hA
             refine seq_do (v := .bool false) hA rfl rfl rfl (does_pick rfl rfl rfl rfl) ?_
             intro a hA
             refine seq_end ?_
             refine hK59 _ _ ?_
             refine wp_cond_false (hA.ev rfl) ?_
             refine wp_skip ?_
             refine hK58 _ _ ?_
             refine wp_seq_k (fun K79 hK79 => ?_)
             refine wp_region_lit ?_
             refine seq_do hA rfl rfl rfl (does_move rfl) ?_
             intro a hA
             refine seq_do (v := .bool false) hA rfl rfl rfl (does_bin rfl rfl (fun w => (bin_neq w).trans (by rw [show (((decS c k 0 l).2.2 != 0)) = false from hb60]))) ?_
             intro a hA
             refine seq_do hA rfl rfl rfl (does_move rfl) ?_
             intro a hA
             refine seq_do hA rfl rfl rfl (does_move rfl) ?_
             intro a hA
             refine seq_do hA rfl rfl rfl (does_move rfl) ?_
             intro a hA
             refine seq_do (v := .bool true) hA rfl rfl rfl (does_bin rfl rfl (bin_eqlT Try.underlying9 (by rw [(dzs (by omega)).1]))) ?_
             intro a hA
             refine seq_do hA rfl rfl rfl (does_move rfl) ?_
             intro a hA
             refine seq_do hA rfl rfl rfl (does_move rfl) ?_
             intro a hA
             refine seq_do hA rfl rfl rfl (does_move rfl) ?_
             intro a hA
             refine seq_do (v := .bool true) hA rfl rfl rfl (does_bin rfl rfl (bin_eqlT Try.underlying9 (by rw [(dzs (by omega)).2]))) ?_
             intro a hA
             refine seq_do (v := .bool true) hA rfl rfl rfl (does_pick rfl rfl rfl rfl) ?_
             intro a hA
             refine seq_do (v := .bool true) hA rfl rfl rfl (does_pick rfl rfl rfl rfl) ?_
             intro a hA
             refine seq_do hA rfl rfl rfl (does_move rfl) ?_
             intro a hA
             refine seq_do hA rfl rfl rfl (does_move rfl) ?_
             intro a hA
             refine seq_do (v := .bool true) hA rfl rfl rfl (does_bin rfl rfl (fun w => (bin_neq w).trans (by rw [show (((encS c k 0 s).2.2 != 0)) = true from hb76]))) ?_
             intro a hA
             refine seq_do hA rfl rfl rfl (does_move rfl) ?_
             intro a hA
             refine seq_skip hA rfl rfl rfl ?_
             intro a hA
             refine seq_skip hA rfl rfl rfl ?_
             intro a hA
             refine seq_skip hA rfl rfl rfl ?_
             intro a hA
             refine seq_skip hA rfl rfl rfl ?_
             intro a hA
             refine seq_skipU hA rfl rfl rfl ?_
             intro a hA
             refine seq_skipU hA rfl rfl rfl ?_
             intro a hA
             refine seq_skipU hA rfl rfl rfl ?_
             intro a hA
             refine seq_skip hA rfl rfl rfl ?_
             intro a hA
             refine seq_do (v := .bool true) hA rfl rfl rfl (does_pick rfl rfl rfl rfl) ?_
             intro a hA
             refine seq_do (v := .bool true) hA rfl rfl rfl (does_pick rfl rfl rfl rfl) ?_
             intro a hA
             refine seq_do hA rfl rfl rfl (does_move rfl) ?_
             intro a hA
             refine seq_do hA rfl rfl rfl (does_move rfl) ?_
             intro a hA
             refine seq_do (v := .int .i64 (((((⟨(decS c k 2 l).1.toArray⟩ : ByteArray)).size : Nat) : Int))) hA rfl rfl rfl (does_builtin rfl (len_str Try.underlying9)) ?_
             intro a hA
             refine seq_do hA rfl rfl rfl (does_move rfl) ?_
             intro a hA
             refine seq_do (v := .int .i64 (((((⟨(decS c k 1 l).1.toArray⟩ : ByteArray)).size : Nat) : Int))) hA rfl rfl rfl (does_builtin rfl (len_str Try.underlying9)) ?_
             intro a hA
             rcases Bool.eq_false_or_eq_true (decide (((((⟨(decS c k 2 l).1.toArray⟩ : ByteArray)).size : Nat) : Int) ≤ ((((⟨(decS c k 1 l).1.toArray⟩ : ByteArray)).size : Nat) : Int))) with hb80 | hb80
             · have hb80' := of_decide_eq_true hb80
               refine seq_do (v := .bool true) hA rfl rfl rfl (does_bin rfl rfl (fun w => (bin_leq w).trans (by rw [hb80]))) ?_
               intro a hA
               refine seq_do (v := .bool true) hA rfl rfl rfl (does_pick rfl rfl rfl rfl) ?_
               intro a hA
               refine seq_do hA rfl rfl rfl (does_move rfl) ?_
               intro a hA
               refine seq_do hA rfl rfl rfl (does_move rfl) ?_
               intro a hA
               refine seq_do (v := .int .i64 ((((encS c k 2 s).1.length : Nat) : Int))) hA rfl rfl rfl (does_len Try.underlying24 rfl) ?_
               intro a hA
               refine seq_do hA rfl rfl rfl (does_move rfl) ?_
               intro a hA
               refine seq_do (v := .int .i64 ((((encS c k 1 s).1.length : Nat) : Int))) hA rfl rfl rfl (does_len Try.underlying24 rfl) ?_
               intro a hA
               rcases Bool.eq_false_or_eq_true (decide ((((encS c k 2 s).1.length : Nat) : Int) ≤ (((encS c k 1 s).1.length : Nat) : Int))) with hb81 | hb81
               · have hb81' := of_decide_eq_true hb81
                 refine seq_do (v := .bool true) hA rfl rfl rfl (does_bin rfl rfl (fun w => (bin_leq w).trans (by rw [hb81]))) ?_
                 intro a hA
                 refine seq_do (v := .bool true) hA rfl rfl rfl (does_pick rfl rfl rfl rfl) ?_
                 intro a hA
                 refine seq_do hA rfl rfl rfl (does_assign rfl) ?_
                 intro a hA
                 refine seq_end ?_
                 refine hK79 _ _ ?_
                 refine wp_ret ?_
                 refine hret _ _ ?_
                 refine ends (v := .bool true) hA rfl (.cons (res_tmp rfl) .nil) rfl ?_
                 exact ⟨rfl, hM.bel⟩
               · have hb81' := of_decide_eq_false hb81
                 refine seq_do (v := .bool false) hA rfl rfl rfl (does_bin rfl rfl (fun w => (bin_leq w).trans (by rw [hb81]))) ?_
                 intro a hA
                 refine seq_do (v := .bool false) hA rfl rfl rfl (does_pick rfl rfl rfl rfl) ?_
                 intro a hA
                 refine seq_do hA rfl rfl rfl (does_assign rfl) ?_
                 intro a hA
                 refine seq_end ?_
                 refine hK79 _ _ ?_
                 refine wp_ret ?_
                 refine hret _ _ ?_
                 refine ends (v := .bool false) hA rfl (.cons (res_tmp rfl) .nil) rfl ?_
                 exfalso; omega
             · have hb80' := of_decide_eq_false hb80
               refine seq_do (v := .bool false) hA rfl rfl rfl (does_bin rfl rfl (fun w => (bin_leq w).trans (by rw [hb80]))) ?_
               intro a hA
               refine seq_do (v := .bool false) hA rfl rfl rfl (does_pick rfl rfl rfl rfl) ?_
               intro a hA
               refine seq_do hA rfl rfl rfl (does_move rfl) ?_
               intro a hA
               refine seq_skip hA rfl rfl rfl ?_
               intro a hA
               refine seq_skip hA rfl rfl rfl ?_
               intro a hA
               refine seq_skip hA rfl rfl rfl ?_
               intro a hA
               refine seq_skip hA rfl rfl rfl ?_
               intro a hA
               refine seq_skip hA rfl rfl rfl ?_
               intro a hA
               refine seq_do (v := .bool false) hA rfl rfl rfl (does_pick rfl rfl rfl rfl) ?_
               intro a hA
               refine seq_do hA rfl rfl rfl (does_assign rfl) ?_
               intro a hA
               refine seq_end ?_
               refine hK79 _ _ ?_
               refine wp_ret ?_
               refine hret _ _ ?_
               refine ends (v := .bool false) hA rfl (.cons (res_tmp rfl) .nil) rfl ?_
               exfalso; omega
         · have hb76' := bne_eq_false_iff_eq.1 hb76
           refine seq_do (v := .bool false) hA rfl rfl rfl (does_bin rfl rfl (fun w => (bin_neq w).trans (by rw [hb76]))) ?_
           intro a hA
           refine seq_do hA rfl rfl rfl (does_move rfl) ?_
           intro a hA
           refine seq_skip hA rfl rfl rfl ?_
           intro a hA
           refine seq_skip hA rfl rfl rfl ?_
           intro a hA
           refine seq_do (v := .bool false) hA rfl rfl rfl (does_pick rfl rfl rfl rfl) ?_
           intro a hA
           refine seq_do (v := .bool false) hA rfl rfl rfl (does_pick rfl rfl rfl rfl) ?_
           intro a hA
           refine seq_end ?_
           refine hK59 _ _ ?_
           refine wp_cond_false (hA.ev rfl) ?_
           refine wp_skip ?_
           refine hK58 _ _ ?_
           refine wp_seq_k (fun K82 hK82 => ?_)
           refine wp_region_lit ?_
           refine seq_do hA rfl rfl rfl (does_move rfl) ?_
           intro a hA
           refine seq_do (v := .bool false) hA rfl rfl rfl (does_bin rfl rfl (fun w => (bin_neq w).trans (by rw [show (((decS c k 0 l).2.2 != 0)) = false from hb60]))) ?_
           intro a hA
           refine seq_do hA rfl rfl rfl (does_move rfl) ?_
           intro a hA
           refine seq_do hA rfl rfl rfl (does_move rfl) ?_
           intro a hA
           refine seq_do hA rfl rfl rfl (does_move rfl) ?_
           intro a hA
           refine seq_do (v := .bool true) hA rfl rfl rfl (does_bin rfl rfl (bin_eqlT Try.underlying9 (by rw [(dzs (by omega)).1]))) ?_
           intro a hA
           refine seq_do hA rfl rfl rfl (does_move rfl) ?_
           intro a hA
           refine seq_do hA rfl rfl rfl (does_move rfl) ?_
           intro a hA
           refine seq_do hA rfl rfl rfl (does_move rfl) ?_
           intro a hA
           refine seq_do (v := .bool true) hA rfl rfl rfl (does_bin rfl rfl (bin_eqlT Try.underlying9 (by rw [(dzs (by omega)).2]))) ?_
           intro a hA
           refine seq_do (v := .bool true) hA rfl rfl rfl (does_pick rfl rfl rfl rfl) ?_
           intro a hA
           refine seq_do (v := .bool true) hA rfl rfl rfl (does_pick rfl rfl rfl rfl) ?_
           intro a hA
           refine seq_do hA rfl rfl rfl (does_move rfl) ?_
           intro a hA
           refine seq_do hA rfl rfl rfl (does_move rfl) ?_
           intro a hA
           refine seq_do (v := .bool false) hA rfl rfl rfl (does_bin rfl rfl (fun w => (bin_neq w).trans (by rw [show (((encS c k 0 s).2.2 != 0)) = false from hb76]))) ?_
           intro a hA
           refine seq_do hA rfl rfl rfl (does_move rfl) ?_
           intro a hA
           refine seq_do hA rfl rfl rfl (does_move rfl) ?_
           intro a hA
           refine seq_do hA rfl rfl rfl (does_move rfl) ?_
           intro a hA
           refine seq_call hA rfl rfl rfl (enters_func rfl rfl (fun w => by kernel_rfl)) (same_eq hM 2 1 (xs := (encS c k 0 s).1) (ys := (encS c k 1 s).1) rfl rfl (by omega) (ezs (by omega)).1) ?_
           rintro _ w84 ⟨rfl, hb83⟩
           replace hM := hM.call hb83
           refine ⟨_, rfl, ?_⟩
           intro a hA
           refine seq_do hA rfl rfl rfl (does_move rfl) ?_
           intro a hA
           refine seq_do hA rfl rfl rfl (does_move rfl) ?_
           intro a hA
           refine seq_do hA rfl rfl rfl (does_move rfl) ?_
           intro a hA
           refine seq_call hA rfl rfl rfl (enters_func rfl rfl (fun w => by kernel_rfl)) (same_eq hM 2 0 (xs := (encS c k 0 s).1) (ys := (encS c k 2 s).1) rfl rfl (by omega) (ezs (by omega)).2) ?_
           rintro _ w86 ⟨rfl, hb85⟩
           replace hM := hM.call hb85
           refine ⟨_, rfl, ?_⟩
           intro a hA
           refine seq_do (v := .bool true) hA rfl rfl rfl (does_pick rfl rfl rfl rfl) ?_
           intro a hA
           refine seq_do (v := .bool true) hA rfl rfl rfl (does_pick rfl rfl rfl rfl) ?_
           intro a hA
           refine seq_do (v := .bool true) hA rfl rfl rfl (does_pick rfl rfl rfl rfl) ?_
           intro a hA
           refine seq_do hA rfl rfl rfl (does_move rfl) ?_
           intro a hA
           refine seq_do hA rfl rfl rfl (does_move rfl) ?_
           intro a hA
           refine seq_do (v := .int .i64 (((((⟨(decS c k 2 l).1.toArray⟩ : ByteArray)).size : Nat) : Int))) hA rfl rfl rfl (does_builtin rfl (len_str Try.underlying9)) ?_
           intro a hA
           refine seq_do hA rfl rfl rfl (does_move rfl) ?_
           intro a hA
           refine seq_do (v := .int .i64 (((((⟨(decS c k 1 l).1.toArray⟩ : ByteArray)).size : Nat) : Int))) hA rfl rfl rfl (does_builtin rfl (len_str Try.underlying9)) ?_
           intro a hA
           rcases Bool.eq_false_or_eq_true (decide (((((⟨(decS c k 2 l).1.toArray⟩ : ByteArray)).size : Nat) : Int) ≤ ((((⟨(decS c k 1 l).1.toArray⟩ : ByteArray)).size : Nat) : Int))) with hb87 | hb87
           · have hb87' := of_decide_eq_true hb87
             refine seq_do (v := .bool true) hA rfl rfl rfl (does_bin rfl rfl (fun w => (bin_leq w).trans (by rw [hb87]))) ?_
             intro a hA
             refine seq_do (v := .bool true) hA rfl rfl rfl (does_pick rfl rfl rfl rfl) ?_
             intro a hA
             refine seq_do hA rfl rfl rfl (does_move rfl) ?_
             intro a hA
             refine seq_do hA rfl rfl rfl (does_move rfl) ?_
             intro a hA
             refine seq_do (v := .int .i64 ((((encS c k 2 s).1.length : Nat) : Int))) hA rfl rfl rfl (does_len Try.underlying24 rfl) ?_
             intro a hA
             refine seq_do hA rfl rfl rfl (does_move rfl) ?_
             intro a hA
             refine seq_do (v := .int .i64 ((((encS c k 1 s).1.length : Nat) : Int))) hA rfl rfl rfl (does_len Try.underlying24 rfl) ?_
             intro a hA
             rcases Bool.eq_false_or_eq_true (decide ((((encS c k 2 s).1.length : Nat) : Int) ≤ (((encS c k 1 s).1.length : Nat) : Int))) with hb88 | hb88
             · have hb88' := of_decide_eq_true hb88
               refine seq_do (v := .bool true) hA rfl rfl rfl (does_bin rfl rfl (fun w => (bin_leq w).trans (by rw [hb88]))) ?_
               intro a hA
               refine seq_do (v := .bool true) hA rfl rfl rfl (does_pick rfl rfl rfl rfl) ?_
               intro a hA
               refine seq_do hA rfl rfl rfl (does_assign rfl) ?_
               intro a hA
               refine seq_end ?_
               refine hK82 _ _ ?_
               refine wp_ret ?_
               refine hret _ _ ?_
               refine ends (v := .bool true) hA rfl (.cons (res_tmp rfl) .nil) rfl ?_
               exact ⟨rfl, hM.bel⟩
             · have hb88' := of_decide_eq_false hb88
               refine seq_do (v := .bool false) hA rfl rfl rfl (does_bin rfl rfl (fun w => (bin_leq w).trans (by rw [hb88]))) ?_
               intro a hA
               refine seq_do (v := .bool false) hA rfl rfl rfl (does_pick rfl rfl rfl rfl) ?_
               intro a hA
               refine seq_do hA rfl rfl rfl (does_assign rfl) ?_
               intro a hA
               refine seq_end ?_
               refine hK82 _ _ ?_
               refine wp_ret ?_
               refine hret _ _ ?_
               refine ends (v := .bool false) hA rfl (.cons (res_tmp rfl) .nil) rfl ?_
               exfalso; omega
           · have hb87' := of_decide_eq_false hb87
             refine seq_do (v := .bool false) hA rfl rfl rfl (does_bin rfl rfl (fun w => (bin_leq w).trans (by rw [hb87]))) ?_
             intro a hA
             refine seq_do (v := .bool false) hA rfl rfl rfl (does_pick rfl rfl rfl rfl) ?_
             intro a hA
             refine seq_do hA rfl rfl rfl (does_move rfl) ?_
             intro a hA
             refine seq_skip hA rfl rfl rfl ?_
             intro a hA
             refine seq_skip hA rfl rfl rfl ?_
             intro a hA
             refine seq_skip hA rfl rfl rfl ?_
             intro a hA
             refine seq_skip hA rfl rfl rfl ?_
             intro a hA
             refine seq_skip hA rfl rfl rfl ?_
             intro a hA
             refine seq_do (v := .bool false) hA rfl rfl rfl (does_pick rfl rfl rfl rfl) ?_
             intro a hA
             refine seq_do hA rfl rfl rfl (does_assign rfl) ?_
             intro a hA
             refine seq_end ?_
             refine hK82 _ _ ?_
             refine wp_ret ?_
             refine hret _ _ ?_
             refine ends (v := .bool false) hA rfl (.cons (res_tmp rfl) .nil) rfl ?_
             exfalso; omega
end Go.Proofs.Ytkngmgddjjefnaa
