/- The walk of CodecPlaces. -/
import Derived.Test.YtkngmgddjjefnaaCoL
import Derived.Test.YtkngmgddjjefnaaCoN
import Derived.Test.YtkngmgddjjefnaaArgB
namespace Go.Proofs.Ytkngmgddjjefnaa
open Go.RowKit
set_option linter.unusedVariables false
set_option linter.unusedSimpArgs false
set_option maxRecDepth 100000
theorem CoO_fld_23_2 : FieldAt Try.prog 23 2 2 := ⟨_, _, Try.underlying23, rfl, rfl, by kernel_rfl⟩
theorem CoO_isS_23 : IsS Try.prog 23 3 := ⟨⟨_, Try.underlying23⟩, by kernel_rfl⟩
theorem decode_take {w : World} {c k m : Int} {so : Option Addr} {cap n : Nat} {l : List UInt8} (hb : Rb w so l) (hn : n ≤ l.length) : Calls Try.prog 9 #[.agg #[.int .i64 c, .int .i64 k, .int .i64 m], .slice so n cap] w fun e w' => e = .returned (.tuple #[.string ⟨(decS c k m (l.take n)).1.toArray⟩, .int .i64 (decS c k m (l.take n)).2.1, .int .i64 (decS c k m (l.take n)).2.2]) ∧ Below w.heap.size w w' := by
  have h := decode_any (c := c) (k := k) (m := m) (cap := cap) (hb.take n) rfl
  rw [List.length_take, Nat.min_eq_left hn] at h
  exact h
theorem places_any {w : World} {c k m : Int} {so : Option Addr} {cap : Nat} {l : List UInt8} {s : ByteArray} (hb : Rb w so l) (hcap : l.length ≤ cap) : Calls Try.prog 7 #[.agg #[.int .i64 c, .int .i64 k, .int .i64 m], .slice so l.length cap, .string s] w fun e w' => e = .returned (.bool true) ∧ Below w.heap.size w w' := by
 obtain ⟨hD, hD2⟩ := dec_places c k l
 obtain ⟨hE, hE2⟩ := enc_places c k s
 have hD1 : (decS c k 0 l).2.2 = 6 → 0 ≤ (decS c k 0 l).2.1 ∧ (decS c k 0 l).2.1 < l.length := fun h => ⟨(hD h).1, (hD h).2.1⟩
 have hD3 : ∀ q : Nat, (decS c k 0 l).2.2 = 6 → (decS c k 0 l).2.1 = (q : Int) → (decS c k 0 (l.take q)).2.2 = 0 := fun q h1 h2 => (hD h1).2.2 q h2
 have hE1 : (encS c k 0 s).2.2 = 6 → 0 ≤ (encS c k 0 s).2.1 ∧ (encS c k 0 s).2.1 < s.size := fun h => ⟨(hE h).1, (hE h).2.1⟩
 have hE3 : ∀ q : Nat, (encS c k 0 s).2.2 = 6 → (encS c k 0 s).2.1 = (q : Int) → (encS c k 0 (⟨(s.data.toList.take q).toArray⟩ : ByteArray)).2.2 = 0 := fun q h1 h2 => (hE h1).2.2 q h2
 clear hD hE
 have hM : Mg w w ([]) := Mg.start w
 refine walk_of (l := [(0, .agg #[.int .i64 c, .int .i64 k, .int .i64 m]), (1, .slice so l.length cap), (2, .string s)]) Try.func7 rfl Try.ntmps7 rfl rfl ?_
 intro Q hret hnorm hP a hA
 refine wp_seq_k (fun K1 hK1 => ?_)
 refine wp_region_lit ?_
 refine s_new (vs := [.int .i64 c, .int .i64 k, .int .i64 m]) (t := 23) hA hM rfl rfl rfl (fun g => .pointer (some ⟨g, 0, none⟩)) (does_box rfl rfl) (by decide) ?_
 intro g2 w3 hM a hA
 refine seq_do hA rfl rfl rfl (does_assign rfl) ?_
 intro a hA
 refine seq_end ?_
 refine hK1 _ _ ?_
 refine wp_seq_k (fun K4 hK4 => ?_)
 refine wp_region_lit ?_
 refine seq_do (v := .pointer (some ⟨g2, 2, none⟩)) hA rfl rfl rfl (does_field CoO_fld_23_2 rfl rfl) ?_
 intro a hA
 refine s_store (us := [.int .i64 c, .int .i64 k, .int .i64 0]) (L' := (.obj g2 (.cells #[.int .i64 c, .int .i64 k, .int .i64 0] 23) :: [])) hA hM rfl rfl (m_store rfl rfl rfl (by kernel_rfl) hM 0 rfl rfl rfl) 0 rfl rfl rfl ?_
 intro w5 hM
 refine seq_end ?_
 refine hK4 _ _ ?_
 refine wp_seq_k (fun K6 hK6 => ?_)
 refine wp_region_lit ?_
 refine seq_do hA rfl rfl rfl (m_loadS hM CoO_isS_23 rfl 0 rfl (cs := [.int .i64 c, .int .i64 k, .int .i64 0]) rfl rfl) ?_
 intro a hA
 refine seq_do hA rfl rfl rfl (does_move rfl) ?_
 intro a hA
 refine seq_call hA rfl rfl rfl (enters_func rfl rfl (fun w => by kernel_rfl)) (decode_any (c := c) (k := k) (m := 0) (hb.below hM.bel) rfl) ?_
 rintro _ w8 ⟨rfl, hb7⟩
 replace hM := hM.call hb7
 refine ⟨_, rfl, ?_⟩
 intro a hA
 refine seq_do hA rfl rfl rfl (does_move rfl) ?_
 intro a hA
 refine seq_do (v := .string ((⟨(decS c k 0 l).1.toArray⟩ : ByteArray))) hA rfl rfl rfl (does_extract (vs := [.string ((⟨(decS c k 0 l).1.toArray⟩ : ByteArray)), .int .i64 ((decS c k 0 l).2.1), .int .i64 ((decS c k 0 l).2.2)]) rfl rfl) ?_
 intro a hA
 refine seq_do (v := .int .i64 ((decS c k 0 l).2.1)) hA rfl rfl rfl (does_extract (vs := [.string ((⟨(decS c k 0 l).1.toArray⟩ : ByteArray)), .int .i64 ((decS c k 0 l).2.1), .int .i64 ((decS c k 0 l).2.2)]) rfl rfl) ?_
 intro a hA
 refine seq_do (v := .int .i64 ((decS c k 0 l).2.2)) hA rfl rfl rfl (does_extract (vs := [.string ((⟨(decS c k 0 l).1.toArray⟩ : ByteArray)), .int .i64 ((decS c k 0 l).2.1), .int .i64 ((decS c k 0 l).2.2)]) rfl rfl) ?_
 intro a hA
 refine seq_do hA rfl rfl rfl (does_assign rfl) ?_
 intro a hA
 refine seq_do hA rfl rfl rfl (does_assign rfl) ?_
 intro a hA
 refine seq_do hA rfl rfl rfl (does_assign rfl) ?_
 intro a hA
 refine seq_end ?_
 refine hK6 _ _ ?_
 refine wp_seq_k (fun K9 hK9 => ?_)
 refine wp_seq_k (fun K10 hK10 => ?_)
 refine wp_region_lit ?_
 refine seq_do hA rfl rfl rfl (does_move rfl) ?_
 intro a hA
 rcases Bool.eq_false_or_eq_true (((decS c k 0 l).2.2 == 6)) with hb11 | hb11
 · have hb11' := eq_of_beq hb11
   refine seq_do (v := .bool true) hA rfl rfl rfl (does_bin rfl rfl (fun w => (bin_eql w).trans (by rw [hb11]))) ?_
   intro a hA
   refine seq_do hA rfl rfl rfl (does_move rfl) ?_
   intro a hA
   refine seq_do hA rfl rfl rfl (does_move rfl) ?_
   intro a hA
   rcases Bool.eq_false_or_eq_true (decide (0 ≤ (decS c k 0 l).2.1)) with hb12 | hb12
   · have hb12' := of_decide_eq_true hb12
     refine seq_do (v := .bool true) hA rfl rfl rfl (does_bin rfl rfl (fun w => (bin_geq w).trans (by rw [hb12]))) ?_
     intro a hA
     refine seq_do (v := .bool true) hA rfl rfl rfl (does_pick rfl rfl rfl rfl) ?_
     intro a hA
     refine seq_do hA rfl rfl rfl (does_move rfl) ?_
     intro a hA
     refine seq_do hA rfl rfl rfl (does_move rfl) ?_
     intro a hA
     refine seq_do hA rfl rfl rfl (does_move rfl) ?_
     intro a hA
     refine seq_do (v := .int .i64 (((l.length : Nat) : Int))) hA rfl rfl rfl (does_len Try.underlying24 rfl) ?_
     intro a hA
     rcases Bool.eq_false_or_eq_true (decide ((decS c k 0 l).2.1 < ((l.length : Nat) : Int))) with hb13 | hb13
     · have hb13' := of_decide_eq_true hb13
       refine seq_do (v := .bool true) hA rfl rfl rfl (does_bin rfl rfl (fun w => (bin_lss w).trans (by rw [hb13]))) ?_
       intro a hA
       refine seq_do (v := .bool true) hA rfl rfl rfl (does_pick rfl rfl rfl rfl) ?_
       intro a hA
       refine seq_end ?_
       refine hK10 _ _ ?_
       refine wp_cond_true (hA.ev rfl) ?_
       refine wp_seq_k (fun K14 hK14 => ?_)
       refine wp_draw (S := fun w1 => Mg w w1 (.obj g2 (.cells #[.int .i64 c, .int .i64 k, .int .i64 0] 23) :: [])) (by kernel_rfl) ?_
       replace hM := hM.drew
       refine any_tk hA 0 rfl rfl rfl rfl hP (hM.sub (.cons_cons _ (List.nil_sublist _))) (fun w1 hM => m_loadS hM CoO_isS_23 rfl 0 rfl (cs := [.int .i64 c, .int .i64 k, .int .i64 0]) rfl rfl) ?_
       intro a hA
       refine any_tk hA 1 rfl rfl rfl rfl hP (hM.sub (.cons_cons _ (List.nil_sublist _))) (fun w1 hM => does_move rfl) ?_
       intro a hA
       refine any_tk hA 2 rfl rfl rfl rfl hP (hM.sub (.cons_cons _ (List.nil_sublist _))) (fun w1 hM => does_move rfl) ?_
       intro a hA
       obtain ⟨n15, hn15⟩ : ∃ n : Nat, (decS c k 0 l).2.1 = (n : Int) := ⟨(decS c k 0 l).2.1.toNat, by omega⟩
       have kn15 := hD3 n15 (by omega) hn15
       obtain ⟨bn15, on15, hson15, _, _⟩ := rb_open (i := n15) hb (by omega)
       refine any_tk (v := .slice so n15 cap) hA 3 rfl rfl rfl rfl hP (hM.sub (.cons_cons _ (List.nil_sublist _))) (fun w1 hM => does_sliceToB Try.underlying24 (by kernel_rfl) rfl rfl hn15 hson15 (by omega)) ?_
       intro a hA
       refine any_one (by kernel_rfl) (op_call hA 4 rfl rfl rfl rfl (enters_func rfl rfl (fun w => by kernel_rfl)) (decode_take (c := c) (k := k) (m := 0) (hb.below hM.bel) (show n15 ≤ l.length by omega)) ?_)
       rintro _ w17 ⟨rfl, hb16⟩
       replace hM := hM.call hb16
       refine ⟨_, rfl, (hM.sub (.cons_cons _ (List.nil_sublist _))), ?_⟩
       intro a hA
       refine any_tk hA 5 rfl rfl rfl rfl hP (hM.sub (.cons_cons _ (List.nil_sublist _))) (fun w1 hM => does_move rfl) ?_
       intro a hA
       refine any_tk (v := .string ((⟨(decS c k 0 (l.take n15)).1.toArray⟩ : ByteArray))) hA 6 rfl rfl rfl rfl hP (hM.sub (.cons_cons _ (List.nil_sublist _))) (fun w1 hM => does_extract (vs := [.string ((⟨(decS c k 0 (l.take n15)).1.toArray⟩ : ByteArray)), .int .i64 ((decS c k 0 (l.take n15)).2.1), .int .i64 ((decS c k 0 (l.take n15)).2.2)]) rfl rfl) ?_
       intro a hA
       refine any_tk (v := .int .i64 ((decS c k 0 (l.take n15)).2.1)) hA 7 rfl rfl rfl rfl hP (hM.sub (.cons_cons _ (List.nil_sublist _))) (fun w1 hM => does_extract (vs := [.string ((⟨(decS c k 0 (l.take n15)).1.toArray⟩ : ByteArray)), .int .i64 ((decS c k 0 (l.take n15)).2.1), .int .i64 ((decS c k 0 (l.take n15)).2.2)]) rfl rfl) ?_
       intro a hA
       refine any_tk (v := .int .i64 ((decS c k 0 (l.take n15)).2.2)) hA 8 rfl rfl rfl rfl hP (hM.sub (.cons_cons _ (List.nil_sublist _))) (fun w1 hM => does_extract (vs := [.string ((⟨(decS c k 0 (l.take n15)).1.toArray⟩ : ByteArray)), .int .i64 ((decS c k 0 (l.take n15)).2.1), .int .i64 ((decS c k 0 (l.take n15)).2.2)]) rfl rfl) ?_
       intro a hA
       refine any_tk hA 9 rfl rfl rfl rfl hP (hM.sub (.cons_cons _ (List.nil_sublist _))) (fun w1 hM => does_assign rfl) ?_
       intro a hA
       refine any_end (by kernel_rfl) ?_
       refine hK14 _ _ ?_
       refine wp_seq_k (fun K18 hK18 => ?_)
       refine wp_region_lit ?_
       refine seq_do hA rfl rfl rfl (does_move rfl) ?_
       intro a hA
       rcases Bool.eq_false_or_eq_true (((decS c k 0 (l.take n15)).2.2 != 0)) with hb19 | hb19
       · have hb19' := bne_iff_ne.1 hb19
         refine seq_do (v := .bool true) hA rfl rfl rfl (does_bin rfl rfl (fun w => (bin_neq w).trans (by rw [hb19]))) ?_
         intro a hA
         refine seq_end ?_
         refine hK18 _ _ ?_
         refine wp_cond_true (hA.ev rfl) ?_
         refine wp_seq_k (fun K20 hK20 => ?_)
         refine wp_region_lit ?_
         refine seq_do hA rfl rfl rfl (does_assign rfl) ?_
         intro a hA
         refine seq_end ?_
         refine hK20 _ _ ?_
         refine wp_ret ?_
         refine hret _ _ ?_
         refine ends (v := .bool false) hA rfl (.cons (res_tmp rfl) .nil) rfl ?_
         exfalso; omega
       · have hb19' := bne_eq_false_iff_eq.1 hb19
         refine seq_do (v := .bool false) hA rfl rfl rfl (does_bin rfl rfl (fun w => (bin_neq w).trans (by rw [hb19]))) ?_
         intro a hA
         refine seq_end ?_
         refine hK18 _ _ ?_
         refine wp_cond_false (hA.ev rfl) ?_
         refine wp_skip ?_
         refine hK9 _ _ ?_
         refine wp_seq_k (fun K21 hK21 => ?_)
         refine wp_region_lit ?_
         refine seq_do hA rfl rfl rfl (m_loadS hM CoO_isS_23 rfl 0 rfl (cs := [.int .i64 c, .int .i64 k, .int .i64 0]) rfl rfl) ?_
         intro a hA
         refine seq_do hA rfl rfl rfl (does_move rfl) ?_
         intro a hA
         refine seq_call hA rfl rfl rfl (enters_func rfl rfl (fun w => by kernel_rfl)) (encode_any (c := c) (k := k) (m := 0) (s := s) rfl) ?_
         rintro _ w27 ⟨v22, rfl, hn23, hM24⟩
         obtain ⟨so25, ca26, rfl⟩ := owns_slice (hM24.has 0 rfl)
         replace hM : Mg w w27 (.row BY 1 (.slice so25 ((encS c k 0 s).1.length) ca26) ((encS c k 0 s).1.length) ((Lib.byteCells (encS c k 0 s).1)) :: .obj g2 (.cells #[.int .i64 c, .int .i64 k, .int .i64 0] 23) :: []) := (hM.both hM24 (noBld_cons (by simp) (noBld_quiet quietL_nil)) (noBld_cons (by simp) (noBld_quiet quietL_nil)))
         refine ⟨_, rfl, ?_⟩
         intro a hA
         refine seq_do hA rfl rfl rfl (does_move rfl) ?_
         intro a hA
         refine seq_do (v := .slice so25 ((encS c k 0 s).1.length) ca26) hA rfl rfl rfl (does_extract (vs := [.slice so25 ((encS c k 0 s).1.length) ca26, .int .i64 ((encS c k 0 s).2.1), .int .i64 ((encS c k 0 s).2.2)]) rfl rfl) ?_
         intro a hA
         refine seq_do (v := .int .i64 ((encS c k 0 s).2.1)) hA rfl rfl rfl (does_extract (vs := [.slice so25 ((encS c k 0 s).1.length) ca26, .int .i64 ((encS c k 0 s).2.1), .int .i64 ((encS c k 0 s).2.2)]) rfl rfl) ?_
         intro a hA
         refine seq_do (v := .int .i64 ((encS c k 0 s).2.2)) hA rfl rfl rfl (does_extract (vs := [.slice so25 ((encS c k 0 s).1.length) ca26, .int .i64 ((encS c k 0 s).2.1), .int .i64 ((encS c k 0 s).2.2)]) rfl rfl) ?_
         intro a hA
         refine seq_do hA rfl rfl rfl (does_assign rfl) ?_
         intro a hA
         refine seq_do hA rfl rfl rfl (does_assign rfl) ?_
         intro a hA
         refine seq_end ?_
         refine hK21 _ _ ?_
         refine wp_seq_k (fun K28 hK28 => ?_)
         refine wp_seq_k (fun K29 hK29 => ?_)
         refine wp_region_lit ?_
         refine seq_do hA rfl rfl rfl (does_move rfl) ?_
         intro a hA
         rcases Bool.eq_false_or_eq_true (((encS c k 0 s).2.2 == 6)) with hb30 | hb30
         · have hb30' := eq_of_beq hb30
           refine seq_do (v := .bool true) hA rfl rfl rfl (does_bin rfl rfl (fun w => (bin_eql w).trans (by rw [hb30]))) ?_
           intro a hA
           refine seq_do hA rfl rfl rfl (does_move rfl) ?_
           intro a hA
           refine seq_do hA rfl rfl rfl (does_move rfl) ?_
           intro a hA
           rcases Bool.eq_false_or_eq_true (decide (0 ≤ (encS c k 0 s).2.1)) with hb31 | hb31
           · have hb31' := of_decide_eq_true hb31
             refine seq_do (v := .bool true) hA rfl rfl rfl (does_bin rfl rfl (fun w => (bin_geq w).trans (by rw [hb31]))) ?_
             intro a hA
             refine seq_do (v := .bool true) hA rfl rfl rfl (does_pick rfl rfl rfl rfl) ?_
             intro a hA
             refine seq_do hA rfl rfl rfl (does_move rfl) ?_
             intro a hA
             refine seq_do hA rfl rfl rfl (does_move rfl) ?_
             intro a hA
             refine seq_do hA rfl rfl rfl (does_move rfl) ?_
             intro a hA
             refine seq_do (v := .int .i64 (((s.size : Nat) : Int))) hA rfl rfl rfl (does_builtin rfl (len_str Try.underlying9)) ?_
             intro a hA
             rcases Bool.eq_false_or_eq_true (decide ((encS c k 0 s).2.1 < ((s.size : Nat) : Int))) with hb32 | hb32
             · have hb32' := of_decide_eq_true hb32
               refine seq_do (v := .bool true) hA rfl rfl rfl (does_bin rfl rfl (fun w => (bin_lss w).trans (by rw [hb32]))) ?_
               intro a hA
               refine seq_do (v := .bool true) hA rfl rfl rfl (does_pick rfl rfl rfl rfl) ?_
               intro a hA
               refine seq_end ?_
               refine hK29 _ _ ?_
               refine wp_cond_true (hA.ev rfl) ?_
               refine wp_seq_k (fun K33 hK33 => ?_)
               refine wp_draw (S := fun w1 => Mg w w1 (.obj g2 (.cells #[.int .i64 c, .int .i64 k, .int .i64 0] 23) :: [])) (by kernel_rfl) ?_
               replace hM := hM.drew
               refine any_tk hA 0 rfl rfl rfl rfl hP (hM.sub (.cons _ (.cons_cons _ (List.nil_sublist _)))) (fun w1 hM => m_loadS hM CoO_isS_23 rfl 0 rfl (cs := [.int .i64 c, .int .i64 k, .int .i64 0]) rfl rfl) ?_
               intro a hA
               refine any_tk hA 1 rfl rfl rfl rfl hP (hM.sub (.cons _ (.cons_cons _ (List.nil_sublist _)))) (fun w1 hM => does_move rfl) ?_
               intro a hA
               refine any_tk hA 2 rfl rfl rfl rfl hP (hM.sub (.cons _ (.cons_cons _ (List.nil_sublist _)))) (fun w1 hM => does_move rfl) ?_
               intro a hA
               obtain ⟨n34, hn34⟩ : ∃ n : Nat, (encS c k 0 s).2.1 = (n : Int) := ⟨(encS c k 0 s).2.1.toNat, by omega⟩
               have kn34 := hE3 n34 (by omega) hn34
               refine any_tk (v := .string ((⟨(s.data.toList.take n34).toArray⟩ : ByteArray))) hA 3 rfl rfl rfl rfl hP (hM.sub (.cons _ (.cons_cons _ (List.nil_sublist _)))) (fun w1 hM => does_sliceToS Try.underlying9 rfl rfl hn34 (by omega)) ?_
               intro a hA
               refine any_one (by kernel_rfl) (op_call hA 4 rfl rfl rfl rfl (enters_func rfl rfl (fun w => by kernel_rfl)) (encode_any (c := c) (k := k) (m := 0) (s := (⟨(s.data.toList.take n34).toArray⟩ : ByteArray)) rfl) ?_)
               rintro _ w40 ⟨v35, rfl, hn36, hM37⟩
               obtain ⟨so38, ca39, rfl⟩ := owns_slice (hM37.has 0 rfl)
               replace hM : Mg w w40 (.row BY 1 (.slice so38 ((encS c k 0 ((⟨(s.data.toList.take n34).toArray⟩ : ByteArray))).1.length) ca39) ((encS c k 0 ((⟨(s.data.toList.take n34).toArray⟩ : ByteArray))).1.length) ((Lib.byteCells (encS c k 0 ((⟨(s.data.toList.take n34).toArray⟩ : ByteArray))).1)) :: .row BY 1 (.slice so25 ((encS c k 0 s).1.length) ca26) ((encS c k 0 s).1.length) ((Lib.byteCells (encS c k 0 s).1)) :: .obj g2 (.cells #[.int .i64 c, .int .i64 k, .int .i64 0] 23) :: []) := (hM.both hM37 (noBld_cons (by simp) (noBld_cons (by simp) (noBld_quiet quietL_nil))) (noBld_cons (by simp) (noBld_quiet quietL_nil)))
               refine ⟨_, rfl, (hM.sub (.cons _ (.cons _ (.cons_cons _ (List.nil_sublist _))))), ?_⟩
               intro a hA
               refine any_tk hA 5 rfl rfl rfl rfl hP (hM.sub (.cons _ (.cons _ (.cons_cons _ (List.nil_sublist _))))) (fun w1 hM => does_move rfl) ?_
               intro a hA
               refine any_tk (v := .slice so38 ((encS c k 0 ((⟨(s.data.toList.take n34).toArray⟩ : ByteArray))).1.length) ca39) hA 6 rfl rfl rfl rfl hP (hM.sub (.cons _ (.cons _ (.cons_cons _ (List.nil_sublist _))))) (fun w1 hM => does_extract (vs := [.slice so38 ((encS c k 0 ((⟨(s.data.toList.take n34).toArray⟩ : ByteArray))).1.length) ca39, .int .i64 ((encS c k 0 ((⟨(s.data.toList.take n34).toArray⟩ : ByteArray))).2.1), .int .i64 ((encS c k 0 ((⟨(s.data.toList.take n34).toArray⟩ : ByteArray))).2.2)]) rfl rfl) ?_
               intro a hA
               refine any_tk (v := .int .i64 ((encS c k 0 ((⟨(s.data.toList.take n34).toArray⟩ : ByteArray))).2.1)) hA 7 rfl rfl rfl rfl hP (hM.sub (.cons _ (.cons _ (.cons_cons _ (List.nil_sublist _))))) (fun w1 hM => does_extract (vs := [.slice so38 ((encS c k 0 ((⟨(s.data.toList.take n34).toArray⟩ : ByteArray))).1.length) ca39, .int .i64 ((encS c k 0 ((⟨(s.data.toList.take n34).toArray⟩ : ByteArray))).2.1), .int .i64 ((encS c k 0 ((⟨(s.data.toList.take n34).toArray⟩ : ByteArray))).2.2)]) rfl rfl) ?_
               intro a hA
               refine any_tk (v := .int .i64 ((encS c k 0 ((⟨(s.data.toList.take n34).toArray⟩ : ByteArray))).2.2)) hA 8 rfl rfl rfl rfl hP (hM.sub (.cons _ (.cons _ (.cons_cons _ (List.nil_sublist _))))) (fun w1 hM => does_extract (vs := [.slice so38 ((encS c k 0 ((⟨(s.data.toList.take n34).toArray⟩ : ByteArray))).1.length) ca39, .int .i64 ((encS c k 0 ((⟨(s.data.toList.take n34).toArray⟩ : ByteArray))).2.1), .int .i64 ((encS c k 0 ((⟨(s.data.toList.take n34).toArray⟩ : ByteArray))).2.2)]) rfl rfl) ?_
               intro a hA
               refine any_tk hA 9 rfl rfl rfl rfl hP (hM.sub (.cons _ (.cons _ (.cons_cons _ (List.nil_sublist _))))) (fun w1 hM => does_assign rfl) ?_
               intro a hA
               refine any_end (by kernel_rfl) ?_
               refine hK33 _ _ ?_
               refine wp_seq_k (fun K41 hK41 => ?_)
               refine wp_region_lit ?_
               refine seq_call hA rfl rfl rfl (enters_func rfl rfl (fun w => by kernel_rfl)) (awake_any) ?_
               rintro _ w43 ⟨rfl, hb42⟩
               replace hM := hM.call hb42
               refine ⟨_, rfl, ?_⟩
               intro a hA
               refine seq_do hA rfl rfl rfl (does_move rfl) ?_
               intro a hA
               refine seq_do hA rfl rfl rfl (does_move rfl) ?_
               intro a hA
               rcases Bool.eq_false_or_eq_true (((encS c k 0 ((⟨(s.data.toList.take n34).toArray⟩ : ByteArray))).2.2 == 0)) with hb44 | hb44
               · have hb44' := eq_of_beq hb44
                 refine seq_do (v := .bool true) hA rfl rfl rfl (does_bin rfl rfl (fun w => (bin_eql w).trans (by rw [hb44]))) ?_
                 intro a hA
                 refine seq_do (v := .bool true) hA rfl rfl rfl (does_pick rfl rfl rfl rfl) ?_
                 intro a hA
                 refine seq_do hA rfl rfl rfl (does_assign rfl) ?_
                 intro a hA
                 refine seq_end ?_
                 refine hK41 _ _ ?_
                 refine wp_ret ?_
                 refine hret _ _ ?_
                 refine ends (v := .bool true) hA rfl (.cons (res_tmp rfl) .nil) rfl ?_
                 exact ⟨rfl, hM.bel⟩
               · have hb44' := ne_of_beq_false hb44
                 refine seq_do (v := .bool false) hA rfl rfl rfl (does_bin rfl rfl (fun w => (bin_eql w).trans (by rw [hb44]))) ?_
                 intro a hA
                 refine seq_do (v := .bool false) hA rfl rfl rfl (does_pick rfl rfl rfl rfl) ?_
                 intro a hA
                 refine seq_do hA rfl rfl rfl (does_assign rfl) ?_
                 intro a hA
                 refine seq_end ?_
                 refine hK41 _ _ ?_
                 refine wp_ret ?_
                 refine hret _ _ ?_
                 refine ends (v := .bool false) hA rfl (.cons (res_tmp rfl) .nil) rfl ?_
                 exfalso; omega
             · have hb32' := of_decide_eq_false hb32
               refine seq_do (v := .bool false) hA rfl rfl rfl (does_bin rfl rfl (fun w => (bin_lss w).trans (by rw [hb32]))) ?_
               intro a hA
               refine seq_do (v := .bool false) hA rfl rfl rfl (does_pick rfl rfl rfl rfl) ?_
               intro a hA
               refine seq_end ?_
               refine hK29 _ _ ?_
               refine wp_cond_false (hA.ev rfl) ?_
               refine wp_skip ?_
               refine hK28 _ _ ?_
               refine wp_seq_k (fun K45 hK45 => ?_)
               refine wp_region_lit ?_
               refine seq_call hA rfl rfl rfl (enters_func rfl rfl (fun w => by kernel_rfl)) (awake_any) ?_
               rintro _ w47 ⟨rfl, hb46⟩
               replace hM := hM.call hb46
               refine ⟨_, rfl, ?_⟩
               intro a hA
               refine seq_do hA rfl rfl rfl (does_move rfl) ?_
               intro a hA
               refine seq_do hA rfl rfl rfl (does_move rfl) ?_
               intro a hA
               rcases Bool.eq_false_or_eq_true (((encS c k 0 s).2.2 != 6)) with hb48 | hb48
               · have hb48' := bne_iff_ne.1 hb48
                 refine seq_do (v := .bool true) hA rfl rfl rfl (does_bin rfl rfl (fun w => (bin_neq w).trans (by rw [hb48]))) ?_
                 intro a hA
                 refine seq_do (v := .bool true) hA rfl rfl rfl (does_pick rfl rfl rfl rfl) ?_
                 intro a hA
                 refine seq_do hA rfl rfl rfl (does_move rfl) ?_
                 intro a hA
                 refine seq_do hA rfl rfl rfl (does_move rfl) ?_
                 intro a hA
                 rcases Bool.eq_false_or_eq_true (((encS c k 0 s).2.1 == 0)) with hb49 | hb49
                 · have hb49' := eq_of_beq hb49
                   refine seq_do (v := .bool true) hA rfl rfl rfl (does_bin rfl rfl (fun w => (bin_eql w).trans (by rw [hb49]))) ?_
                   intro a hA
                   refine seq_do (v := .bool true) hA rfl rfl rfl (does_pick rfl rfl rfl rfl) ?_
                   intro a hA
                   refine seq_do hA rfl rfl rfl (does_assign rfl) ?_
                   intro a hA
                   refine seq_end ?_
                   refine hK45 _ _ ?_
                   refine wp_ret ?_
                   refine hret _ _ ?_
                   refine ends (v := .bool true) hA rfl (.cons (res_tmp rfl) .nil) rfl ?_
                   exact ⟨rfl, hM.bel⟩
                 · have hb49' := ne_of_beq_false hb49
                   refine seq_do (v := .bool false) hA rfl rfl rfl (does_bin rfl rfl (fun w => (bin_eql w).trans (by rw [hb49]))) ?_
                   intro a hA
                   refine seq_do (v := .bool false) hA rfl rfl rfl (does_pick rfl rfl rfl rfl) ?_
                   intro a hA
                   refine seq_do hA rfl rfl rfl (does_assign rfl) ?_
                   intro a hA
                   refine seq_end ?_
                   refine hK45 _ _ ?_
                   refine wp_ret ?_
                   refine hret _ _ ?_
                   refine ends (v := .bool false) hA rfl (.cons (res_tmp rfl) .nil) rfl ?_
                   exfalso; omega
               · have hb48' := bne_eq_false_iff_eq.1 hb48
                 refine seq_do (v := .bool false) hA rfl rfl rfl (does_bin rfl rfl (fun w => (bin_neq w).trans (by rw [hb48]))) ?_
                 intro a hA
                 refine seq_do (v := .bool false) hA rfl rfl rfl (does_pick rfl rfl rfl rfl) ?_
                 intro a hA
                 refine seq_do hA rfl rfl rfl (does_move rfl) ?_
                 intro a hA
                 refine seq_skip hA rfl rfl rfl ?_
                 intro a hA
                 refine seq_skip hA rfl rfl rfl ?_
                 intro a hA
                 refine seq_do (v := .bool false) hA rfl rfl rfl (does_pick rfl rfl rfl rfl) ?_
                 intro a hA
                 refine seq_do hA rfl rfl rfl (does_assign rfl) ?_
                 intro a hA
                 refine seq_end ?_
                 refine hK45 _ _ ?_
                 refine wp_ret ?_
                 refine hret _ _ ?_
                 refine ends (v := .bool false) hA rfl (.cons (res_tmp rfl) .nil) rfl ?_
                 exfalso; omega
           · have hb31' := of_decide_eq_false hb31
             refine seq_do (v := .bool false) hA rfl rfl rfl (does_bin rfl rfl (fun w => (bin_geq w).trans (by rw [hb31]))) ?_
             intro a hA
             refine seq_do (v := .bool false) hA rfl rfl rfl (does_pick rfl rfl rfl rfl) ?_
             intro a hA
             refine seq_do hA rfl rfl rfl (does_move rfl) ?_
             intro a hA
             refine seq_skip hA rfl rfl rfl ?_
             intro a hA
             refine seq_skip hA rfl rfl rfl ?_
             intro a hA
             refine seq_skip hA rfl rfl rfl ?_
             intro a hA
             refine seq_skip hA rfl rfl rfl ?_
             intro a hA
             refine seq_do (v := .bool false) hA rfl rfl rfl (does_pick rfl rfl rfl rfl) ?_
             intro a hA
             refine seq_end ?_
             refine hK29 _ _ ?_
             refine wp_cond_false (hA.ev rfl) ?_
             refine wp_skip ?_
             refine hK28 _ _ ?_
             refine wp_seq_k (fun K50 hK50 => ?_)
             refine wp_region_lit ?_
             refine seq_call hA rfl rfl rfl (enters_func rfl rfl (fun w => by kernel_rfl)) (awake_any) ?_
             rintro _ w52 ⟨rfl, hb51⟩
             replace hM := hM.call hb51
             refine ⟨_, rfl, ?_⟩
             intro a hA
             refine seq_do hA rfl rfl rfl (does_move rfl) ?_
             intro a hA
             refine seq_do hA rfl rfl rfl (does_move rfl) ?_
             intro a hA
             rcases Bool.eq_false_or_eq_true (((encS c k 0 s).2.2 != 6)) with hb53 | hb53
             · have hb53' := bne_iff_ne.1 hb53
               refine seq_do (v := .bool true) hA rfl rfl rfl (does_bin rfl rfl (fun w => (bin_neq w).trans (by rw [hb53]))) ?_
               intro a hA
               refine seq_do (v := .bool true) hA rfl rfl rfl (does_pick rfl rfl rfl rfl) ?_
               intro a hA
               refine seq_do hA rfl rfl rfl (does_move rfl) ?_
               intro a hA
               refine seq_do hA rfl rfl rfl (does_move rfl) ?_
               intro a hA
               rcases Bool.eq_false_or_eq_true (((encS c k 0 s).2.1 == 0)) with hb54 | hb54
               · have hb54' := eq_of_beq hb54
                 refine seq_do (v := .bool true) hA rfl rfl rfl (does_bin rfl rfl (fun w => (bin_eql w).trans (by rw [hb54]))) ?_
                 intro a hA
                 refine seq_do (v := .bool true) hA rfl rfl rfl (does_pick rfl rfl rfl rfl) ?_
                 intro a hA
                 refine seq_do hA rfl rfl rfl (does_assign rfl) ?_
                 intro a hA
                 refine seq_end ?_
                 refine hK50 _ _ ?_
                 refine wp_ret ?_
                 refine hret _ _ ?_
                 refine ends (v := .bool true) hA rfl (.cons (res_tmp rfl) .nil) rfl ?_
                 exact ⟨rfl, hM.bel⟩
               · have hb54' := ne_of_beq_false hb54
                 refine seq_do (v := .bool false) hA rfl rfl rfl (does_bin rfl rfl (fun w => (bin_eql w).trans (by rw [hb54]))) ?_
                 intro a hA
                 refine seq_do (v := .bool false) hA rfl rfl rfl (does_pick rfl rfl rfl rfl) ?_
                 intro a hA
                 refine seq_do hA rfl rfl rfl (does_assign rfl) ?_
                 intro a hA
                 refine seq_end ?_
                 refine hK50 _ _ ?_
                 refine wp_ret ?_
                 refine hret _ _ ?_
                 refine ends (v := .bool false) hA rfl (.cons (res_tmp rfl) .nil) rfl ?_
                 exfalso; omega
             · have hb53' := bne_eq_false_iff_eq.1 hb53
               refine seq_do (v := .bool false) hA rfl rfl rfl (does_bin rfl rfl (fun w => (bin_neq w).trans (by rw [hb53]))) ?_
               intro a hA
               refine seq_do (v := .bool false) hA rfl rfl rfl (does_pick rfl rfl rfl rfl) ?_
               intro a hA
               refine seq_do hA rfl rfl rfl (does_move rfl) ?_
               intro a hA
               refine seq_skip hA rfl rfl rfl ?_
               intro a hA
               refine seq_skip hA rfl rfl rfl ?_
               intro a hA
               refine seq_do (v := .bool false) hA rfl rfl rfl (does_pick rfl rfl rfl rfl) ?_
               intro a hA
               refine seq_do hA rfl rfl rfl (does_assign rfl) ?_
               intro a hA
               refine seq_end ?_
               refine hK50 _ _ ?_
               refine wp_ret ?_
               refine hret _ _ ?_
               refine ends (v := .bool false) hA rfl (.cons (res_tmp rfl) .nil) rfl ?_
               exfalso; omega
         · have hb30' := ne_of_beq_false hb30
           refine seq_do (v := .bool false) hA rfl rfl rfl (does_bin rfl rfl (fun w => (bin_eql w).trans (by rw [hb30]))) ?_
           intro a hA
           refine seq_do hA rfl rfl rfl (does_move rfl) ?_
           intro a hA
           refine seq_skip hA rfl rfl rfl ?_
           intro a hA
           refine seq_skip hA rfl rfl rfl ?_
           intro a hA
           refine seq_do (v := .bool false) hA rfl rfl rfl (does_pick rfl rfl rfl rfl) ?_
           intro a hA
           refine seq_do hA rfl rfl rfl (does_move rfl) ?_
           intro a hA
           refine seq_skip hA rfl rfl rfl ?_
           intro a hA
           refine seq_skip hA rfl rfl rfl ?_
           intro a hA
           refine seq_skip hA rfl rfl rfl ?_
           intro a hA
           refine seq_skip hA rfl rfl rfl ?_
           intro a hA
           refine seq_do (v := .bool false) hA rfl rfl rfl (does_pick rfl rfl rfl rfl) ?_
           intro a hA
           refine seq_end ?_
           refine hK29 _ _ ?_
           refine wp_cond_false (hA.ev rfl) ?_
           refine wp_skip ?_
           refine hK28 _ _ ?_
           refine wp_seq_k (fun K55 hK55 => ?_)
           refine wp_region_lit ?_
           refine seq_call hA rfl rfl rfl (enters_func rfl rfl (fun w => by kernel_rfl)) (awake_any) ?_
           rintro _ w57 ⟨rfl, hb56⟩
           replace hM := hM.call hb56
           refine ⟨_, rfl, ?_⟩
           intro a hA
           refine seq_do hA rfl rfl rfl (does_move rfl) ?_
           intro a hA
           refine seq_do hA rfl rfl rfl (does_move rfl) ?_
           intro a hA
           rcases Bool.eq_false_or_eq_true (((encS c k 0 s).2.2 != 6)) with hb58 | hb58
           · have hb58' := bne_iff_ne.1 hb58
             refine seq_do (v := .bool true) hA rfl rfl rfl (does_bin rfl rfl (fun w => (bin_neq w).trans (by rw [hb58]))) ?_
             intro a hA
             refine seq_do (v := .bool true) hA rfl rfl rfl (does_pick rfl rfl rfl rfl) ?_
             intro a hA
             refine seq_do hA rfl rfl rfl (does_move rfl) ?_
             intro a hA
             refine seq_do hA rfl rfl rfl (does_move rfl) ?_
             intro a hA
             rcases Bool.eq_false_or_eq_true (((encS c k 0 s).2.1 == 0)) with hb59 | hb59
             · have hb59' := eq_of_beq hb59
               refine seq_do (v := .bool true) hA rfl rfl rfl (does_bin rfl rfl (fun w => (bin_eql w).trans (by rw [hb59]))) ?_
               intro a hA
               refine seq_do (v := .bool true) hA rfl rfl rfl (does_pick rfl rfl rfl rfl) ?_
               intro a hA
               refine seq_do hA rfl rfl rfl (does_assign rfl) ?_
               intro a hA
               refine seq_end ?_
               refine hK55 _ _ ?_
               refine wp_ret ?_
               refine hret _ _ ?_
               refine ends (v := .bool true) hA rfl (.cons (res_tmp rfl) .nil) rfl ?_
               exact ⟨rfl, hM.bel⟩
             · have hb59' := ne_of_beq_false hb59
               refine seq_do (v := .bool false) hA rfl rfl rfl (does_bin rfl rfl (fun w => (bin_eql w).trans (by rw [hb59]))) ?_
               intro a hA
               refine seq_do (v := .bool false) hA rfl rfl rfl (does_pick rfl rfl rfl rfl) ?_
               intro a hA
               refine seq_do hA rfl rfl rfl (does_assign rfl) ?_
               intro a hA
               refine seq_end ?_
               refine hK55 _ _ ?_
               refine wp_ret ?_
               refine hret _ _ ?_
               refine ends (v := .bool false) hA rfl (.cons (res_tmp rfl) .nil) rfl ?_
               exfalso; omega
           · have hb58' := bne_eq_false_iff_eq.1 hb58
             refine seq_do (v := .bool false) hA rfl rfl rfl (does_bin rfl rfl (fun w => (bin_neq w).trans (by rw [hb58]))) ?_
             intro a hA
             refine seq_do (v := .bool false) hA rfl rfl rfl (does_pick rfl rfl rfl rfl) ?_
             intro a hA
             refine seq_do hA rfl rfl rfl (does_move rfl) ?_
             intro a hA
             refine seq_skip hA rfl rfl rfl ?_
             intro a hA
             refine seq_skip hA rfl rfl rfl ?_
             intro a hA
             refine seq_do (v := .bool false) hA rfl rfl rfl (does_pick rfl rfl rfl rfl) ?_
             intro a hA
             refine seq_do hA rfl rfl rfl (does_assign rfl) ?_
             intro a hA
             refine seq_end ?_
             refine hK55 _ _ ?_
             refine wp_ret ?_
             refine hret _ _ ?_
             refine ends (v := .bool false) hA rfl (.cons (res_tmp rfl) .nil) rfl ?_
             exfalso; omega
     · have hb13' := of_decide_eq_false hb13
       refine seq_do (v := .bool false) hA rfl rfl rfl (does_bin rfl rfl (fun w => (bin_lss w).trans (by rw [hb13]))) ?_
       intro a hA
       refine seq_do (v := .bool false) hA rfl rfl rfl (does_pick rfl rfl rfl rfl) ?_
       intro a hA
       refine seq_end ?_
       refine hK10 _ _ ?_
       refine wp_cond_false (hA.ev rfl) ?_
       refine wp_seq_k (fun K60 hK60 => ?_)
       refine wp_region_lit ?_
       refine seq_do hA rfl rfl rfl (does_move rfl) ?_
       intro a hA
       refine seq_do (v := .bool true) hA rfl rfl rfl (does_bin rfl rfl (fun w => (bin_eql w).trans (by rw [show (((decS c k 0 l).2.2 == 6)) = true from hb11]))) ?_
       intro a hA
       refine seq_do hA rfl rfl rfl (does_move rfl) ?_
       intro a hA
       refine seq_skip hA rfl rfl rfl ?_
       intro a hA
       refine seq_skip hA rfl rfl rfl ?_
       intro a hA
       refine seq_do (v := .bool true) hA rfl rfl rfl (does_pick rfl rfl rfl rfl) ?_
       intro a hA
       refine seq_end ?_
       refine hK60 _ _ ?_
       refine wp_cond_true (hA.ev rfl) ?_
       refine wp_seq_k (fun K61 hK61 => ?_)
       refine wp_region_lit ?_
       refine seq_do hA rfl rfl rfl (does_assign rfl) ?_
       intro a hA
       refine seq_end ?_
       refine hK61 _ _ ?_
       refine wp_ret ?_
       refine hret _ _ ?_
       refine ends (v := .bool false) hA rfl (.cons (res_tmp rfl) .nil) rfl ?_
       exfalso; omega
   · have hb12' := of_decide_eq_false hb12
     refine seq_do (v := .bool false) hA rfl rfl rfl (does_bin rfl rfl (fun w => (bin_geq w).trans (by rw [hb12]))) ?_
     intro a hA
     refine seq_do (v := .bool false) hA rfl rfl rfl (does_pick rfl rfl rfl rfl) ?_
     intro a hA
     refine seq_do hA rfl rfl rfl (does_move rfl) ?_
     intro a hA
     refine seq_skip hA rfl rfl rfl ?_
     intro a hA
     refine seq_skip hA rfl rfl rfl ?_
     intro a hA
     refine seq_skip hA rfl rfl rfl ?_
     intro a hA
     refine seq_skip hA rfl rfl rfl ?_
     intro a hA
     refine seq_do (v := .bool false) hA rfl rfl rfl (does_pick rfl rfl rfl rfl) ?_
     intro a hA
     refine seq_end ?_
     refine hK10 _ _ ?_
     refine wp_cond_false (hA.ev rfl) ?_
     refine wp_seq_k (fun K62 hK62 => ?_)
     refine wp_region_lit ?_
     refine seq_do hA rfl rfl rfl (does_move rfl) ?_
     intro a hA
     refine seq_do (v := .bool true) hA rfl rfl rfl (does_bin rfl rfl (fun w => (bin_eql w).trans (by rw [show (((decS c k 0 l).2.2 == 6)) = true from hb11]))) ?_
     intro a hA
     refine seq_do hA rfl rfl rfl (does_move rfl) ?_
     intro a hA
     refine seq_skip hA rfl rfl rfl ?_
     intro a hA
     refine seq_skip hA rfl rfl rfl ?_
     intro a hA
     refine seq_do (v := .bool true) hA rfl rfl rfl (does_pick rfl rfl rfl rfl) ?_
     intro a hA
     refine seq_end ?_
     refine hK62 _ _ ?_
     refine wp_cond_true (hA.ev rfl) ?_
     refine wp_seq_k (fun K63 hK63 => ?_)
     refine wp_region_lit ?_
     refine seq_do hA rfl rfl rfl (does_assign rfl) ?_
     intro a hA
     refine seq_end ?_
     refine hK63 _ _ ?_
     refine wp_ret ?_
     refine hret _ _ ?_
     refine ends (v := .bool false) hA rfl (.cons (res_tmp rfl) .nil) rfl ?_
     exfalso; omega
 · have hb11' := ne_of_beq_false hb11
   refine seq_do (v := .bool false) hA rfl rfl rfl (does_bin rfl rfl (fun w => (bin_eql w).trans (by rw [hb11]))) ?_
   intro a hA
   refine seq_do hA rfl rfl rfl (does_move rfl) ?_
   intro a hA
   refine seq_skip hA rfl rfl rfl ?_
   intro a hA
   refine seq_skip hA rfl rfl rfl ?_
   intro a hA
   refine seq_do (v := .bool false) hA rfl rfl rfl (does_pick rfl rfl rfl rfl) ?_
   intro a hA
   refine seq_do hA rfl rfl rfl (does_move rfl) ?_
   intro a hA
   refine seq_skip hA rfl rfl rfl ?_
   intro a hA
   refine seq_skip hA rfl rfl rfl ?_
   intro a hA
   refine seq_skip hA rfl rfl rfl ?_
   intro a hA
   refine seq_skip hA rfl rfl rfl ?_
   intro a hA
   refine seq_do (v := .bool false) hA rfl rfl rfl (does_pick rfl rfl rfl rfl) ?_
   intro a hA
   refine seq_end ?_
   refine hK10 _ _ ?_
   refine wp_cond_false (hA.ev rfl) ?_
   refine wp_seq_k (fun K64 hK64 => ?_)
   refine wp_region_lit ?_
   refine seq_do hA rfl rfl rfl (does_move rfl) ?_
   intro a hA
   refine seq_do (v := .bool false) hA rfl rfl rfl (does_bin rfl rfl (fun w => (bin_eql w).trans (by rw [show (((decS c k 0 l).2.2 == 6)) = false from hb11]))) ?_
   intro a hA
   refine seq_do hA rfl rfl rfl (does_move rfl) ?_
   intro a hA
   refine seq_do hA rfl rfl rfl (does_move rfl) ?_
   intro a hA
   rcases Bool.eq_false_or_eq_true (((decS c k 0 l).2.1 != 0)) with hb65 | hb65
   · have hb65' := bne_iff_ne.1 hb65
     refine seq_do (v := .bool true) hA rfl rfl rfl (does_bin rfl rfl (fun w => (bin_neq w).trans (by rw [hb65]))) ?_
     intro a hA
     refine seq_do (v := .bool true) hA rfl rfl rfl (does_pick rfl rfl rfl rfl) ?_
     intro a hA
     refine seq_end ?_
     refine hK64 _ _ ?_
     refine wp_cond_true (hA.ev rfl) ?_
     refine wp_seq_k (fun K66 hK66 => ?_)
     refine wp_region_lit ?_
     refine seq_do hA rfl rfl rfl (does_assign rfl) ?_
     intro a hA
     refine seq_end ?_
     refine hK66 _ _ ?_
     refine wp_ret ?_
     refine hret _ _ ?_
     refine ends (v := .bool false) hA rfl (.cons (res_tmp rfl) .nil) rfl ?_
     exfalso; omega
   · have hb65' := bne_eq_false_iff_eq.1 hb65
     refine seq_do (v := .bool false) hA rfl rfl rfl (does_bin rfl rfl (fun w => (bin_neq w).trans (by rw [hb65]))) ?_
     intro a hA
     refine seq_do (v := .bool false) hA rfl rfl rfl (does_pick rfl rfl rfl rfl) ?_
     intro a hA
     refine seq_end ?_
     refine hK64 _ _ ?_
     refine wp_cond_false (hA.ev rfl) ?_
     refine wp_skip ?_
     refine hK9 _ _ ?_
     refine wp_seq_k (fun K67 hK67 => ?_)
     refine wp_region_lit ?_
     refine seq_do hA rfl rfl rfl (m_loadS hM CoO_isS_23 rfl 0 rfl (cs := [.int .i64 c, .int .i64 k, .int .i64 0]) rfl rfl) ?_
     intro a hA
     refine seq_do hA rfl rfl rfl (does_move rfl) ?_
     intro a hA
     refine seq_call hA rfl rfl rfl (enters_func rfl rfl (fun w => by kernel_rfl)) (encode_any (c := c) (k := k) (m := 0) (s := s) rfl) ?_
     rintro _ w73 ⟨v68, rfl, hn69, hM70⟩
     obtain ⟨so71, ca72, rfl⟩ := owns_slice (hM70.has 0 rfl)
     replace hM : Mg w w73 (.row BY 1 (.slice so71 ((encS c k 0 s).1.length) ca72) ((encS c k 0 s).1.length) ((Lib.byteCells (encS c k 0 s).1)) :: .obj g2 (.cells #[.int .i64 c, .int .i64 k, .int .i64 0] 23) :: []) := (hM.both hM70 (noBld_cons (by simp) (noBld_quiet quietL_nil)) (noBld_cons (by simp) (noBld_quiet quietL_nil)))
     refine ⟨_, rfl, ?_⟩
     intro a hA
     refine seq_do hA rfl rfl rfl (does_move rfl) ?_
     intro a hA
     refine seq_do (v := .slice so71 ((encS c k 0 s).1.length) ca72) hA rfl rfl rfl (does_extract (vs := [.slice so71 ((encS c k 0 s).1.length) ca72, .int .i64 ((encS c k 0 s).2.1), .int .i64 ((encS c k 0 s).2.2)]) rfl rfl) ?_
     intro a hA
     refine seq_do (v := .int .i64 ((encS c k 0 s).2.1)) hA rfl rfl rfl (does_extract (vs := [.slice so71 ((encS c k 0 s).1.length) ca72, .int .i64 ((encS c k 0 s).2.1), .int .i64 ((encS c k 0 s).2.2)]) rfl rfl) ?_
     intro a hA
     refine seq_do (v := .int .i64 ((encS c k 0 s).2.2)) hA rfl rfl rfl (does_extract (vs := [.slice so71 ((encS c k 0 s).1.length) ca72, .int .i64 ((encS c k 0 s).2.1), .int .i64 ((encS c k 0 s).2.2)]) rfl rfl) ?_
     intro a hA
     refine seq_do hA rfl rfl rfl (does_assign rfl) ?_
     intro a hA
     refine seq_do hA rfl rfl rfl (does_assign rfl) ?_
     intro a hA
     refine seq_end ?_
     refine hK67 _ _ ?_
     refine wp_seq_k (fun K74 hK74 => ?_)
     refine wp_seq_k (fun K75 hK75 => ?_)
     refine wp_region_lit ?_
     refine seq_do hA rfl rfl rfl (does_move rfl) ?_
     intro a hA
     rcases Bool.eq_false_or_eq_true (((encS c k 0 s).2.2 == 6)) with hb76 | hb76
     · have hb76' := eq_of_beq hb76
       refine seq_do (v := .bool true) hA rfl rfl rfl (does_bin rfl rfl (fun w => (bin_eql w).trans (by rw [hb76]))) ?_
       intro a hA
       refine seq_do hA rfl rfl rfl (does_move rfl) ?_
       intro a hA
       refine seq_do hA rfl rfl rfl (does_move rfl) ?_
       intro a hA
       rcases Bool.eq_false_or_eq_true (decide (0 ≤ (encS c k 0 s).2.1)) with hb77 | hb77
       · have hb77' := of_decide_eq_true hb77
         refine seq_do (v := .bool true) hA rfl rfl rfl (does_bin rfl rfl (fun w => (bin_geq w).trans (by rw [hb77]))) ?_
         intro a hA
         refine seq_do (v := .bool true) hA rfl rfl rfl (does_pick rfl rfl rfl rfl) ?_
         intro a hA
         refine seq_do hA rfl rfl rfl (does_move rfl) ?_
         intro a hA
         refine seq_do hA rfl rfl rfl (does_move rfl) ?_
         intro a hA
         refine seq_do hA rfl rfl rfl (does_move rfl) ?_
         intro a hA
         refine seq_do (v := .int .i64 (((s.size : Nat) : Int))) hA rfl rfl rfl (does_builtin rfl (len_str Try.underlying9)) ?_
         intro a hA
         rcases Bool.eq_false_or_eq_true (decide ((encS c k 0 s).2.1 < ((s.size : Nat) : Int))) with hb78 | hb78
         · have hb78' := of_decide_eq_true hb78
           refine seq_do (v := .bool true) hA rfl rfl rfl (does_bin rfl rfl (fun w => (bin_lss w).trans (by rw [hb78]))) ?_
           intro a hA
           refine seq_do (v := .bool true) hA rfl rfl rfl (does_pick rfl rfl rfl rfl) ?_
           intro a hA
           refine seq_end ?_
           refine hK75 _ _ ?_
           refine wp_cond_true (hA.ev rfl) ?_
           refine wp_seq_k (fun K79 hK79 => ?_)
           refine wp_draw (S := fun w1 => Mg w w1 (.obj g2 (.cells #[.int .i64 c, .int .i64 k, .int .i64 0] 23) :: [])) (by kernel_rfl) ?_
           replace hM := hM.drew
           refine any_tk hA 0 rfl rfl rfl rfl hP (hM.sub (.cons _ (.cons_cons _ (List.nil_sublist _)))) (fun w1 hM => m_loadS hM CoO_isS_23 rfl 0 rfl (cs := [.int .i64 c, .int .i64 k, .int .i64 0]) rfl rfl) ?_
           intro a hA
           refine any_tk hA 1 rfl rfl rfl rfl hP (hM.sub (.cons _ (.cons_cons _ (List.nil_sublist _)))) (fun w1 hM => does_move rfl) ?_
           intro a hA
           refine any_tk hA 2 rfl rfl rfl rfl hP (hM.sub (.cons _ (.cons_cons _ (List.nil_sublist _)))) (fun w1 hM => does_move rfl) ?_
           intro a hA
           obtain ⟨n80, hn80⟩ : ∃ n : Nat, (encS c k 0 s).2.1 = (n : Int) := ⟨(encS c k 0 s).2.1.toNat, by omega⟩
           have kn80 := hE3 n80 (by omega) hn80
           refine any_tk (v := .string ((⟨(s.data.toList.take n80).toArray⟩ : ByteArray))) hA 3 rfl rfl rfl rfl hP (hM.sub (.cons _ (.cons_cons _ (List.nil_sublist _)))) (fun w1 hM => does_sliceToS Try.underlying9 rfl rfl hn80 (by omega)) ?_
           intro a hA
           refine any_one (by kernel_rfl) (op_call hA 4 rfl rfl rfl rfl (enters_func rfl rfl (fun w => by kernel_rfl)) (encode_any (c := c) (k := k) (m := 0) (s := (⟨(s.data.toList.take n80).toArray⟩ : ByteArray)) rfl) ?_)
           rintro _ w86 ⟨v81, rfl, hn82, hM83⟩
           obtain ⟨so84, ca85, rfl⟩ := owns_slice (hM83.has 0 rfl)
           replace hM : Mg w w86 (.row BY 1 (.slice so84 ((encS c k 0 ((⟨(s.data.toList.take n80).toArray⟩ : ByteArray))).1.length) ca85) ((encS c k 0 ((⟨(s.data.toList.take n80).toArray⟩ : ByteArray))).1.length) ((Lib.byteCells (encS c k 0 ((⟨(s.data.toList.take n80).toArray⟩ : ByteArray))).1)) :: .row BY 1 (.slice so71 ((encS c k 0 s).1.length) ca72) ((encS c k 0 s).1.length) ((Lib.byteCells (encS c k 0 s).1)) :: .obj g2 (.cells #[.int .i64 c, .int .i64 k, .int .i64 0] 23) :: []) := (hM.both hM83 (noBld_cons (by simp) (noBld_cons (by simp) (noBld_quiet quietL_nil))) (noBld_cons (by simp) (noBld_quiet quietL_nil)))
           refine ⟨_, rfl, (hM.sub (.cons _ (.cons _ (.cons_cons _ (List.nil_sublist _))))), ?_⟩
           intro a hA
           refine any_tk hA 5 rfl rfl rfl rfl hP (hM.sub (.cons _ (.cons _ (.cons_cons _ (List.nil_sublist _))))) (fun w1 hM => does_move rfl) ?_
           intro a hA
           refine any_tk (v := .slice so84 ((encS c k 0 ((⟨(s.data.toList.take n80).toArray⟩ : ByteArray))).1.length) ca85) hA 6 rfl rfl rfl rfl hP (hM.sub (.cons _ (.cons _ (.cons_cons _ (List.nil_sublist _))))) (fun w1 hM => does_extract (vs := [.slice so84 ((encS c k 0 ((⟨(s.data.toList.take n80).toArray⟩ : ByteArray))).1.length) ca85, .int .i64 ((encS c k 0 ((⟨(s.data.toList.take n80).toArray⟩ : ByteArray))).2.1), .int .i64 ((encS c k 0 ((⟨(s.data.toList.take n80).toArray⟩ : ByteArray))).2.2)]) rfl rfl) ?_
           intro a hA
           refine any_tk (v := .int .i64 ((encS c k 0 ((⟨(s.data.toList.take n80).toArray⟩ : ByteArray))).2.1)) hA 7 rfl rfl rfl rfl hP (hM.sub (.cons _ (.cons _ (.cons_cons _ (List.nil_sublist _))))) (fun w1 hM => does_extract (vs := [.slice so84 ((encS c k 0 ((⟨(s.data.toList.take n80).toArray⟩ : ByteArray))).1.length) ca85, .int .i64 ((encS c k 0 ((⟨(s.data.toList.take n80).toArray⟩ : ByteArray))).2.1), .int .i64 ((encS c k 0 ((⟨(s.data.toList.take n80).toArray⟩ : ByteArray))).2.2)]) rfl rfl) ?_
           intro a hA
           refine any_tk (v := .int .i64 ((encS c k 0 ((⟨(s.data.toList.take n80).toArray⟩ : ByteArray))).2.2)) hA 8 rfl rfl rfl rfl hP (hM.sub (.cons _ (.cons _ (.cons_cons _ (List.nil_sublist _))))) (fun w1 hM => does_extract (vs := [.slice so84 ((encS c k 0 ((⟨(s.data.toList.take n80).toArray⟩ : ByteArray))).1.length) ca85, .int .i64 ((encS c k 0 ((⟨(s.data.toList.take n80).toArray⟩ : ByteArray))).2.1), .int .i64 ((encS c k 0 ((⟨(s.data.toList.take n80).toArray⟩ : ByteArray))).2.2)]) rfl rfl) ?_
           intro a hA
           refine any_tk hA 9 rfl rfl rfl rfl hP (hM.sub (.cons _ (.cons _ (.cons_cons _ (List.nil_sublist _))))) (fun w1 hM => does_assign rfl) ?_
           intro a hA
           refine any_end (by kernel_rfl) ?_
           refine hK79 _ _ ?_
           refine wp_seq_k (fun K87 hK87 => ?_)
           refine wp_region_lit ?_
           refine seq_call hA rfl rfl rfl (enters_func rfl rfl (fun w => by kernel_rfl)) (awake_any) ?_
           rintro _ w89 ⟨rfl, hb88⟩
           replace hM := hM.call hb88
           refine ⟨_, rfl, ?_⟩
           intro a hA
           refine seq_do hA rfl rfl rfl (does_move rfl) ?_
           intro a hA
           refine seq_do hA rfl rfl rfl (does_move rfl) ?_
           intro a hA
           rcases Bool.eq_false_or_eq_true (((encS c k 0 ((⟨(s.data.toList.take n80).toArray⟩ : ByteArray))).2.2 == 0)) with hb90 | hb90
           · have hb90' := eq_of_beq hb90
             refine seq_do (v := .bool true) hA rfl rfl rfl (does_bin rfl rfl (fun w => (bin_eql w).trans (by rw [hb90]))) ?_
             intro a hA
             refine seq_do (v := .bool true) hA rfl rfl rfl (does_pick rfl rfl rfl rfl) ?_
             intro a hA
             refine seq_do hA rfl rfl rfl (does_assign rfl) ?_
             intro a hA
             refine seq_end ?_
             refine hK87 _ _ ?_
             refine wp_ret ?_
             refine hret _ _ ?_
             refine ends (v := .bool true) hA rfl (.cons (res_tmp rfl) .nil) rfl ?_
             exact ⟨rfl, hM.bel⟩
           · have hb90' := ne_of_beq_false hb90
             refine seq_do (v := .bool false) hA rfl rfl rfl (does_bin rfl rfl (fun w => (bin_eql w).trans (by rw [hb90]))) ?_
             intro a hA
             refine seq_do (v := .bool false) hA rfl rfl rfl (does_pick rfl rfl rfl rfl) ?_
             intro a hA
             refine seq_do hA rfl rfl rfl (does_assign rfl) ?_
             intro a hA
             refine seq_end ?_
             refine hK87 _ _ ?_
             refine wp_ret ?_
             refine hret _ _ ?_
             refine ends (v := .bool false) hA rfl (.cons (res_tmp rfl) .nil) rfl ?_
             exfalso; omega
         · have hb78' := of_decide_eq_false hb78
           refine seq_do (v := .bool false) hA rfl rfl rfl (does_bin rfl rfl (fun w => (bin_lss w).trans (by rw [hb78]))) ?_
           intro a hA
           refine seq_do (v := .bool false) hA rfl rfl rfl (does_pick rfl rfl rfl rfl) ?_
           intro a hA
           refine seq_end ?_
           refine hK75 _ _ ?_
           refine wp_cond_false (hA.ev rfl) ?_
           refine wp_skip ?_
           refine hK74 _ _ ?_
           refine wp_seq_k (fun K91 hK91 => ?_)
           refine wp_region_lit ?_
           refine seq_call hA rfl rfl rfl (enters_func rfl rfl (fun w => by kernel_rfl)) (awake_any) ?_
           rintro _ w93 ⟨rfl, hb92⟩
           replace hM := hM.call hb92
           refine ⟨_, rfl, ?_⟩
           intro a hA
           refine seq_do hA rfl rfl rfl (does_move rfl) ?_
           intro a hA
           refine seq_do hA rfl rfl rfl (does_move rfl) ?_
           intro a hA
           rcases Bool.eq_false_or_eq_true (((encS c k 0 s).2.2 != 6)) with hb94 | hb94
           · have hb94' := bne_iff_ne.1 hb94
             refine seq_do (v := .bool true) hA rfl rfl rfl (does_bin rfl rfl (fun w => (bin_neq w).trans (by rw [hb94]))) ?_
             intro a hA
             refine seq_do (v := .bool true) hA rfl rfl rfl (does_pick rfl rfl rfl rfl) ?_
             intro a hA
             refine seq_do hA rfl rfl rfl (does_move rfl) ?_
             intro a hA
             refine seq_do hA rfl rfl rfl (does_move rfl) ?_
             intro a hA
             rcases Bool.eq_false_or_eq_true (((encS c k 0 s).2.1 == 0)) with hb95 | hb95
             · have hb95' := eq_of_beq hb95
               refine seq_do (v := .bool true) hA rfl rfl rfl (does_bin rfl rfl (fun w => (bin_eql w).trans (by rw [hb95]))) ?_
               intro a hA
               refine seq_do (v := .bool true) hA rfl rfl rfl (does_pick rfl rfl rfl rfl) ?_
               intro a hA
               refine seq_do hA rfl rfl rfl (does_assign rfl) ?_
               intro a hA
               refine seq_end ?_
               refine hK91 _ _ ?_
               refine wp_ret ?_
               refine hret _ _ ?_
               refine ends (v := .bool true) hA rfl (.cons (res_tmp rfl) .nil) rfl ?_
               exact ⟨rfl, hM.bel⟩
             · have hb95' := ne_of_beq_false hb95
               refine seq_do (v := .bool false) hA rfl rfl rfl (does_bin rfl rfl (fun w => (bin_eql w).trans (by rw [hb95]))) ?_
               intro a hA
               refine seq_do (v := .bool false) hA rfl rfl rfl (does_pick rfl rfl rfl rfl) ?_
               intro a hA
               refine seq_do hA rfl rfl rfl (does_assign rfl) ?_
               intro a hA
               refine seq_end ?_
               refine hK91 _ _ ?_
               refine wp_ret ?_
               refine hret _ _ ?_
               refine ends (v := .bool false) hA rfl (.cons (res_tmp rfl) .nil) rfl ?_
               exfalso; omega
           · have hb94' := bne_eq_false_iff_eq.1 hb94
             refine seq_do (v := .bool false) hA rfl rfl rfl (does_bin rfl rfl (fun w => (bin_neq w).trans (by rw [hb94]))) ?_
             intro a hA
             refine seq_do (v := .bool false) hA rfl rfl rfl (does_pick rfl rfl rfl rfl) ?_
             intro a hA
             refine seq_do hA rfl rfl rfl (does_move rfl) ?_
             intro a hA
             refine seq_skip hA rfl rfl rfl ?_
             intro a hA
             refine seq_skip hA rfl rfl rfl ?_
             intro a hA
             refine seq_do (v := .bool false) hA rfl rfl rfl (does_pick rfl rfl rfl rfl) ?_
             intro a hA
             refine seq_do hA rfl rfl rfl (does_assign rfl) ?_
             intro a hA
             refine seq_end ?_
             refine hK91 _ _ ?_
             refine wp_ret ?_
             refine hret _ _ ?_
             refine ends (v := .bool false) hA rfl (.cons (res_tmp rfl) .nil) rfl ?_
             exfalso; omega
       · have hb77' := of_decide_eq_false hb77
         refine seq_do (v := .bool false) hA rfl rfl rfl (does_bin rfl rfl (fun w => (bin_geq w).trans (by rw [hb77]))) ?_
         intro a hA
         refine seq_do (v := .bool false) hA rfl rfl rfl (does_pick rfl rfl rfl rfl) ?_
         intro a hA
         refine seq_do hA rfl rfl rfl (does_move rfl) ?_
         intro a hA
         refine seq_skip hA rfl rfl rfl ?_
         intro a hA
         refine seq_skip hA rfl rfl rfl ?_
         intro a hA
         refine seq_skip hA rfl rfl rfl ?_
         intro a hA
         refine seq_skip hA rfl rfl rfl ?_
         intro a hA
         refine seq_do (v := .bool false) hA rfl rfl rfl (does_pick rfl rfl rfl rfl) ?_
         intro a hA
         refine seq_end ?_
         refine hK75 _ _ ?_
         refine wp_cond_false (hA.ev rfl) ?_
         refine wp_skip ?_
         refine hK74 _ _ ?_
         refine wp_seq_k (fun K96 hK96 => ?_)
         refine wp_region_lit ?_
         refine seq_call hA rfl rfl rfl (enters_func rfl rfl (fun w => by kernel_rfl)) (awake_any) ?_
         rintro _ w98 ⟨rfl, hb97⟩
         replace hM := hM.call hb97
         refine ⟨_, rfl, ?_⟩
         intro a hA
         refine seq_do hA rfl rfl rfl (does_move rfl) ?_
         intro a hA
         refine seq_do hA rfl rfl rfl (does_move rfl) ?_
         intro a hA
         rcases Bool.eq_false_or_eq_true (((encS c k 0 s).2.2 != 6)) with hb99 | hb99
         · have hb99' := bne_iff_ne.1 hb99
           refine seq_do (v := .bool true) hA rfl rfl rfl (does_bin rfl rfl (fun w => (bin_neq w).trans (by rw [hb99]))) ?_
           intro a hA
           refine seq_do (v := .bool true) hA rfl rfl rfl (does_pick rfl rfl rfl rfl) ?_
           intro a hA
           refine seq_do hA rfl rfl rfl (does_move rfl) ?_
           intro a hA
           refine seq_do hA rfl rfl rfl (does_move rfl) ?_
           intro a hA
           rcases Bool.eq_false_or_eq_true (((encS c k 0 s).2.1 == 0)) with hb100 | hb100
           · have hb100' := eq_of_beq hb100
             refine seq_do (v := .bool true) hA rfl rfl rfl (does_bin rfl rfl (fun w => (bin_eql w).trans (by rw [hb100]))) ?_
             intro a hA
             refine seq_do (v := .bool true) hA rfl rfl rfl (does_pick rfl rfl rfl rfl) ?_
             intro a hA
             refine seq_do hA rfl rfl rfl (does_assign rfl) ?_
             intro a hA
             refine seq_end ?_
             refine hK96 _ _ ?_
             refine wp_ret ?_
             refine hret _ _ ?_
             refine ends (v := .bool true) hA rfl (.cons (res_tmp rfl) .nil) rfl ?_
             exact ⟨rfl, hM.bel⟩
           · have hb100' := ne_of_beq_false hb100
             refine seq_do (v := .bool false) hA rfl rfl rfl (does_bin rfl rfl (fun w => (bin_eql w).trans (by rw [hb100]))) ?_
             intro a hA
             refine seq_do (v := .bool false) hA rfl rfl rfl (does_pick rfl rfl rfl rfl) ?_
             intro a hA
             refine seq_do hA rfl rfl rfl (does_assign rfl) ?_
             intro a hA
             refine seq_end ?_
             refine hK96 _ _ ?_
             refine wp_ret ?_
             refine hret _ _ ?_
             refine ends (v := .bool false) hA rfl (.cons (res_tmp rfl) .nil) rfl ?_
             exfalso; omega
         · have hb99' := bne_eq_false_iff_eq.1 hb99
           refine seq_do (v := .bool false) hA rfl rfl rfl (does_bin rfl rfl (fun w => (bin_neq w).trans (by rw [hb99]))) ?_
           intro a hA
           refine seq_do (v := .bool false) hA rfl rfl rfl (does_pick rfl rfl rfl rfl) ?_
           intro a hA
           refine seq_do hA rfl rfl rfl (does_move rfl) ?_
           intro a hA
           refine seq_skip hA rfl rfl rfl ?_
           intro a hA
           refine seq_skip hA rfl rfl rfl ?_
           intro a hA
           refine seq_do (v := .bool false) hA rfl rfl rfl (does_pick rfl rfl rfl rfl) ?_
           intro a hA
           refine seq_do hA rfl rfl rfl (does_assign rfl) ?_
           intro a hA
           refine seq_end ?_
           refine hK96 _ _ ?_
           refine wp_ret ?_
           refine hret _ _ ?_
           refine ends (v := .bool false) hA rfl (.cons (res_tmp rfl) .nil) rfl ?_
           exfalso; omega
     · have hb76' := ne_of_beq_false hb76
       refine seq_do (v := .bool false) hA rfl rfl rfl (does_bin rfl rfl (fun w => (bin_eql w).trans (by rw [hb76]))) ?_
       intro a hA
       refine seq_do hA rfl rfl rfl (does_move rfl) ?_
       intro a hA
       refine seq_skip hA rfl rfl rfl ?_
       intro a hA
       refine seq_skip hA rfl rfl rfl ?_
       intro a hA
       refine seq_do (v := .bool false) hA rfl rfl rfl (does_pick rfl rfl rfl rfl) ?_
       intro a hA
       refine seq_do hA rfl rfl rfl (does_move rfl) ?_
       intro a hA
       refine seq_skip hA rfl rfl rfl ?_
       intro a hA
       refine seq_skip hA rfl rfl rfl ?_
       intro a hA
       refine seq_skip hA rfl rfl rfl ?_
       intro a hA
       refine seq_skip hA rfl rfl rfl ?_
       intro a hA
       refine seq_do (v := .bool false) hA rfl rfl rfl (does_pick rfl rfl rfl rfl) ?_
       intro a hA
       refine seq_end ?_
       refine hK75 _ _ ?_
       refine wp_cond_false (hA.ev rfl) ?_
       refine wp_skip ?_
       refine hK74 _ _ ?_
       refine wp_seq_k (fun K101 hK101 => ?_)
       refine wp_region_lit ?_
       refine seq_call hA rfl rfl rfl (enters_func rfl rfl (fun w => by kernel_rfl)) (awake_any) ?_
       rintro _ w103 ⟨rfl, hb102⟩
       replace hM := hM.call hb102
       refine ⟨_, rfl, ?_⟩
       intro a hA
       refine seq_do hA rfl rfl rfl (does_move rfl) ?_
       intro a hA
       refine seq_do hA rfl rfl rfl (does_move rfl) ?_
       intro a hA
       rcases Bool.eq_false_or_eq_true (((encS c k 0 s).2.2 != 6)) with hb104 | hb104
       · have hb104' := bne_iff_ne.1 hb104
         refine seq_do (v := .bool true) hA rfl rfl rfl (does_bin rfl rfl (fun w => (bin_neq w).trans (by rw [hb104]))) ?_
         intro a hA
         refine seq_do (v := .bool true) hA rfl rfl rfl (does_pick rfl rfl rfl rfl) ?_
         intro a hA
         refine seq_do hA rfl rfl rfl (does_move rfl) ?_
         intro a hA
         refine seq_do hA rfl rfl rfl (does_move rfl) ?_
         intro a hA
         rcases Bool.eq_false_or_eq_true (((encS c k 0 s).2.1 == 0)) with hb105 | hb105
         · have hb105' := eq_of_beq hb105
           refine seq_do (v := .bool true) hA rfl rfl rfl (does_bin rfl rfl (fun w => (bin_eql w).trans (by rw [hb105]))) ?_
           intro a hA
           refine seq_do (v := .bool true) hA rfl rfl rfl (does_pick rfl rfl rfl rfl) ?_
           intro a hA
           refine seq_do hA rfl rfl rfl (does_assign rfl) ?_
           intro a hA
           refine seq_end ?_
           refine hK101 _ _ ?_
           refine wp_ret ?_
           refine hret _ _ ?_
           refine ends (v := .bool true) hA rfl (.cons (res_tmp rfl) .nil) rfl ?_
           exact ⟨rfl, hM.bel⟩
         · have hb105' := ne_of_beq_false hb105
           refine seq_do (v := .bool false) hA rfl rfl rfl (does_bin rfl rfl (fun w => (bin_eql w).trans (by rw [hb105]))) ?_
           intro a hA
           refine seq_do (v := .bool false) hA rfl rfl rfl (does_pick rfl rfl rfl rfl) ?_
           intro a hA
           refine seq_do hA rfl rfl rfl (does_assign rfl) ?_
           intro a hA
           refine seq_end ?_
           refine hK101 _ _ ?_
           refine wp_ret ?_
           refine hret _ _ ?_
           refine ends (v := .bool false) hA rfl (.cons (res_tmp rfl) .nil) rfl ?_
           exfalso; omega
       · have hb104' := bne_eq_false_iff_eq.1 hb104
         refine seq_do (v := .bool false) hA rfl rfl rfl (does_bin rfl rfl (fun w => (bin_neq w).trans (by rw [hb104]))) ?_
         intro a hA
         refine seq_do (v := .bool false) hA rfl rfl rfl (does_pick rfl rfl rfl rfl) ?_
         intro a hA
         refine seq_do hA rfl rfl rfl (does_move rfl) ?_
         intro a hA
         refine seq_skip hA rfl rfl rfl ?_
         intro a hA
         refine seq_skip hA rfl rfl rfl ?_
         intro a hA
         refine seq_do (v := .bool false) hA rfl rfl rfl (does_pick rfl rfl rfl rfl) ?_
         intro a hA
         refine seq_do hA rfl rfl rfl (does_assign rfl) ?_
         intro a hA
         refine seq_end ?_
         refine hK101 _ _ ?_
         refine wp_ret ?_
         refine hret _ _ ?_
         refine ends (v := .bool false) hA rfl (.cons (res_tmp rfl) .nil) rfl ?_
         exfalso; omega
end Go.Proofs.Ytkngmgddjjefnaa
